/- A reader of digits is told a byte, and the end: what it comes to, over any memory. Condition: its head may be. -/
import Derived.Test.YtldhhhmihfcalaaZPlE
import Derived.Test.YtldhhhmihfcalaaZgAA
import Derived.Test.YtldhhhmihfcalaaZQPixO
import Derived.Test.YtldhhhmihfcalaaZgAB
import Derived.Test.YtldhhhmihfcalaaZQPixD
namespace Go.Proofs.Ytldhhhmihfcalaa
open Go.RowKit
set_option linter.unusedVariables false

theorem Pl.sample_h (s : Pl.S) (k : Int) : (Pl.sample s k).1.h = s.h := by
  unfold Pl.sample
  split
  · rfl
  · split <;> rfl
theorem Pl.sample_d (s : Pl.S) (k : Int) : (Pl.sample s k).1.d = false := by
  unfold Pl.sample
  split
  · rfl
  · split <;> rfl
theorem Pl.sample_e (s : Pl.S) (k : Int) : (Pl.sample s k).1.e = 0 := by
  unfold Pl.sample
  split
  · rfl
  · split <;> rfl
def stOf (s : Pl.S) : Value := if s.h.kd = 1 then stB else if s.d = true then stD else stA
/-- a reader in the block b is where s says -/
structure PlX (w : World) (b : Nat) (sv rv : Value) (s : Pl.S) : Prop where
  g : Pl.Good s
  z : ∀ k, PlZ b sv rv k → b ≤ k ∧ k < w.heap.size
  ex : ∃ n x, PlC w b s.h n sv rv s.rows s.last s.e x ∧ (s.last = 0 → n = s.n ∧ x = stOf s ∧ w.ownsRow (b + 1) 3 1 sv s.one.length (ints s.one) ∧ w.ownsRow (b + 1) 88 1 rv s.row.length (pixs s.row))
/-- what a reader hands back of a byte, and what its blocks hold then -/
def PlPutR (w : World) (b : Nat) (sv rv : Value) (q : Pl.S × List Int) (e : Ending) (w' : World) : Prop :=
  ∃ a c sv' rv', e = .returned (.tuple #[.slice a q.2.length c, .int .i64 q.1.last]) ∧ PlX w' b sv' rv' q.1 ∧ SlK .u64 w' a q.2.length q.2 ∧ (∀ y, a = some y → y.block ≠ b) ∧ Sep (PlZ b sv rv) w w' ∧ PlNew w sv sv' ∧ PlNew w rv rv'
theorem slk_nil {w : World} : SlK .u64 w none ([] : List Int).length [] := ⟨rfl, .inl rfl⟩
theorem slk_kept {q : IntKind} {w w' : World} {a : Option Addr} {n b : Nat} {l : List Int} (h : SlK q w a n l) (ha : ∀ y, a = some y → y.block ≠ b) (hg : w.grownBy w' (some b)) : SlK q w' a n l := by
  obtain ⟨h1, h2⟩ := h
  refine ⟨h1, ?_⟩
  rcases h2 with h2 | ⟨g, o, rfl, hc⟩
  · exact .inl h2
  · refine .inr ⟨g, o, rfl, fun i hi => ?_⟩
    have hne := ha _ rfl
    exact hg.cell (hc i hi) (by intro e; injection e with e; exact hne e)
theorem PlX.own0 {w : World} {b : Nat} {sv rv : Value} {s : Pl.S} (X : PlX w b sv rv s) (h0 : s.last = 0) : PlT w b s.h sv rv s.n sv rv s.one s.row s.rows 0 (stOf s) w := by
  obtain ⟨n, x, hC, hx⟩ := X.ex
  obtain ⟨rfl, rfl, h1, h2⟩ := hx h0
  have e0 := X.g.e0 (by omega)
  rw [h0, e0] at hC
  exact .start hC h1 h2
theorem PlT.z {W w : World} {b : Nat} {h : Hd.H} {sv0 rv0 : Value} {n : Int} {sv rv : Value} {one row : List Int} {rows t : Int} {x : Value} (T : PlT W b h sv0 rv0 n sv rv one row rows t x w) {w' : World} (hs : w.heap.size ≤ w'.heap.size) : ∀ k, PlZ b sv rv k → b ≤ k ∧ k < w'.heap.size := by
  intro k hk
  have hb := T.c.lt
  rcases hk with rfl | hk | hk
  · exact ⟨Nat.le_refl _, Nat.lt_of_lt_of_le hb hs⟩
  · have := T.s.lt k hk; omega
  · have := T.r.lt k hk; omega
theorem z_up {w w' : World} {b : Nat} {sv rv : Value} (h : ∀ k, PlZ b sv rv k → b ≤ k ∧ k < w.heap.size) (hs : w.heap.size ≤ w'.heap.size) : ∀ k, PlZ b sv rv k → b ≤ k ∧ k < w'.heap.size := fun k hk => ⟨(h k hk).1, Nat.lt_of_lt_of_le (h k hk).2 hs⟩
theorem put_open {w : World} {b : Nat} {sv rv : Value} {s t : Pl.S} (hG : Pl.Good t) (ht : t.last = 0) (T : PlT w b s.h sv rv s.n sv rv s.one s.row s.rows 0 (stOf s) w) (hs : t.h = s.h ∧ t.one = s.one ∧ t.row = s.row ∧ t.rows = s.rows)
    {e : Ending} {w' : World} (he : e = .returned (.tuple #[.slice none 0 0, .int .i64 0])) (hC : PlC w' b s.h t.n sv rv s.rows 0 0 (stOf t)) (hg : w.grownBy w' (some b)) : PlPutR w b sv rv (t, []) e w' := by
  obtain ⟨a1, a2, a3, a4⟩ := hs
  have e0 := hG.e0 (by omega)
  refine ⟨none, 0, sv, rv, by rw [he]; show _ = Ending.returned (.tuple #[.slice none 0 0, .int .i64 t.last]); rw [ht], ⟨hG, T.z hg.size, t.n, stOf t, by rw [a1, a4, ht, e0]; exact hC, fun _ => ⟨rfl, rfl, ?_, ?_⟩⟩, slk_nil, (fun y hy => by cases hy), .grown hg (.inl rfl), .inl rfl, .inl rfl⟩
  · rw [a2]; exact T.s.kept hg (.inr fun e => T.nes e.symm)
  · rw [a3]; exact T.r.kept hg (.inr fun e => T.ner e.symm)
theorem put_wrong {w : World} {b : Nat} {sv rv : Value} {s : Pl.S} (hG : Pl.Good s) (T : PlT w b s.h sv rv s.n sv rv s.one s.row s.rows 0 (stOf s) w) {er : Int} (her : er = 3 ∨ er = 5 ∨ er = 6)
    {e : Ending} {w' : World} {k : Int} {x : Value} (he : e = .returned (.tuple #[.slice none 0 0, .int .i64 2])) (hC : PlC w' b s.h k sv rv s.rows 2 er x) (hg : w.grownBy w' (some b)) : PlPutR w b sv rv (Pl.wrong s er, []) e w' :=
  ⟨none, 0, sv, rv, he, ⟨Pl.good_wrong hG her, T.z hg.size, k, x, hC, fun h => absurd h (show ¬ (2 : Int) = 0 by decide)⟩, slk_nil, (fun y hy => by cases hy), .grown hg (.inl rfl), .inl rfl, .inl rfl⟩
theorem put_sample {w : World} {b : Nat} {sv rv : Value} {s : Pl.S} (hG : Pl.Good s) (h0 : s.last = 0) (T : PlT w b s.h sv rv s.n sv rv s.one s.row s.rows 0 (stOf s) w) (c k : Int) (k0 : 0 ≤ k) (k1 : k ≤ s.h.m) (fn : Nat)
    (hn : ∀ args w, (callFunc fn args).run Try.prog w = .ok (.enter fn args) w) (hfn : stOf s = .func (.func fn) #[] #[]) (x : Value) (hx : x = if s.h.kd = 1 then stB else stA)
    (hcall : Calls Try.prog fn #[.pointer (some ⟨b, 0, none⟩), .int .u8 c] w (StR w b s.h k sv rv s.rows x true 0)) :
    Calls Try.prog 45 #[.pointer (some ⟨b, 0, none⟩), .int .u8 c] w (PlPutR w b sv rv (Pl.sample s k)) := by
  have H := T.c
  rw [hfn] at H
  refine (plPut_take c w b s.h s.n sv rv s.rows fn hn H k x 0 (Pl.sample s k).1.rows (Pl.sample s k).1.last (Pl.sample s k).2 (fun W1 W2 a sv' rv' => PlT W1 b s.h sv rv 0 sv' rv' (Pl.sample s k).1.one (Pl.sample s k).1.row (Pl.sample s k).1.rows (Pl.sample s k).1.last x W2 ∧ SlK .u64 W2 a (Pl.sample s k).2.length (Pl.sample s k).2 ∧ ∀ y, a = some y → y.block ≠ b) hcall ?_).mono ?_
  · intro W hC hg
    refine (plTake_any hG h0 k (.start hC (T.s.kept hg (.inr fun e => T.nes e.symm)) (T.r.kept hg (.inr fun e => T.ner e.symm)))).mono ?_
    rintro e w' ⟨a, c', sv', rv', he, hT, hS⟩
    exact ⟨a, c', sv', rv', he, hT.c, hT, hS⟩
  · rintro e w' ⟨a, c', sv', rv', W1, W2, j, he, hg1, ⟨hT, hS, hA⟩, rfl⟩
    have hGq := Pl.good_sample hG h0 k k0 k1
    have hh := Pl.sample_h s k
    have hd := Pl.sample_d s k
    have hz : (Pl.sample s k).1.n = 0 := hGq.nd hd
    have he2 := Pl.sample_e s k
    have hst : stOf (Pl.sample s k).1 = x := by unfold stOf; rw [hh, hd, hx]; rfl
    refine ⟨a, c', sv', rv', he, ⟨hGq, hT.z (Nat.le_refl _), 0, x, ?_, fun _ => ⟨hz.symm, hst.symm, hT.s, hT.r⟩⟩, hS, hA, ((Sep.grown hg1 (.inl rfl)).trans hT.f).trans (.drewN _ _ _), ?_, ?_⟩
    · rw [hh, he2]; exact hT.c
    · rcases hT.ns with h | h
      · exact .inl h
      · exact .inr fun i hi => Nat.le_trans hg1.size (h i hi)
    · rcases hT.nr with h | h
      · exact .inl h
      · exact .inr fun i hi => Nat.le_trans hg1.size (h i hi)
theorem plPut_any {s : Pl.S} (c : Int) (c0 : 0 ≤ c) (c1 : c ≤ 255) (w : World) (b : Nat) (sv rv : Value) (X : PlX w b sv rv s) :
    Calls Try.prog 45 #[.pointer (some ⟨b, 0, none⟩), .int .u8 c] w (PlPutR w b sv rv (Pl.put s c)) := by
  have hG := X.g
  have hm := hG.may.m
  by_cases h0 : s.last = 0
  · have T := X.own0 h0
    have H := T.c
    unfold Pl.put
    rw [if_neg (by omega)]
    cases hb : Tk.blank c with
    | true =>
      rw [if_pos rfl]
      by_cases hd : s.d = true
      · rw [if_pos hd]
        have hk : s.h.kd ≠ 1 := fun e => by rw [hG.kd e] at hd; cases hd
        have hst : stOf s = stD := by unfold stOf; rw [if_neg hk, if_pos hd]
        rw [hst] at H
        exact put_sample hG h0 T c s.n hG.n0 hG.n1 _ enPD hst stA (by rw [if_neg hk]) (plBehind_blank w b s.h s.n sv rv s.rows c c0 c1 hb H)
      · rw [if_neg hd]
        by_cases hk : s.h.kd = 1
        · have hst : stOf s = stB := by unfold stOf; rw [if_pos hk]
          rw [hst] at H
          refine (plPut_open c w b s.h s.n sv rv s.rows _ enPB H s.n stB (plBit_blank w b s.h s.n sv rv s.rows c c0 c1 hb H)).mono ?_
          rintro e w' ⟨he, hC, hg⟩
          exact put_open hG h0 T ⟨rfl, rfl, rfl, rfl⟩ he (by rw [hst]; exact hC) hg
        · have hst : stOf s = stA := by unfold stOf; rw [if_neg hk, if_neg hd]
          rw [hst] at H
          refine (plPut_open c w b s.h s.n sv rv s.rows _ enPA H s.n stA (plAhead_blank w b s.h s.n sv rv s.rows c c0 c1 hb H)).mono ?_
          rintro e w' ⟨he, hC, hg⟩
          exact put_open hG h0 T ⟨rfl, rfl, rfl, rfl⟩ he (by rw [hst]; exact hC) hg
    | false =>
      rw [if_neg (by decide)]
      by_cases hk : s.h.kd = 1
      · rw [if_pos hk]
        have hst : stOf s = stB := by unfold stOf; rw [if_pos hk]
        rw [hst] at H
        by_cases hc : c = 48 ∨ c = 49
        · rw [if_pos hc]
          exact put_sample hG h0 T c (c - 48) (by omega) (by omega) _ enPB hst stB (by rw [if_pos hk]) (plBit_yes w b s.h s.n sv rv s.rows c hc H)
        · rw [if_neg hc]
          refine (plPut_err c w b s.h s.n sv rv s.rows _ enPB H s.n stB false 3 (by decide) (plBit_no w b s.h s.n sv rv s.rows c c0 c1 hb (by omega) (by omega) H)).mono ?_
          rintro e w' ⟨he, hC, hg⟩
          exact put_wrong hG T (.inl rfl) he hC hg
      · rw [if_neg hk]
        obtain ⟨k, er, hs⟩ : ∃ k er, Nu.stepV s.n c s.h.m = (k, er) := ⟨_, _, rfl⟩
        have hse := Tk.stepV_e s.n c s.h.m
        have hsl := Nu.stepV_le s.n c s.h.m hG.n0 hG.n1
        rw [hs] at hse hsl ⊢
        simp only at hse hsl ⊢
        -- the step
        have hstep : ∀ (k' er' : Int), (∀ W, PlC W b s.h s.n sv rv s.rows 0 0 stD → Calls Try.prog 110 #[.pointer (some ⟨b, 0, none⟩), .int .u8 c] W fun e w' => e = .returned (.int .i64 er') ∧ PlC w' b s.h k' sv rv s.rows 0 0 stD ∧ W.grownBy w' (some b)) →
            ∃ fn, (∀ args w, (callFunc fn args).run Try.prog w = .ok (.enter fn args) w) ∧ stOf s = .func (.func fn) #[] #[] ∧ Calls Try.prog fn #[.pointer (some ⟨b, 0, none⟩), .int .u8 c] w (StR w b s.h k' sv rv s.rows stD false er') := by
          intro k' er' hd'
          by_cases hd : s.d = true
          · have hst : stOf s = stD := by unfold stOf; rw [if_neg hk, if_pos hd]
            rw [hst] at H ⊢
            exact ⟨_, enPD, rfl, plBehind_digit w b s.h s.n sv rv s.rows c c0 c1 hb H k' er' hd'⟩
          · have hst : stOf s = stA := by unfold stOf; rw [if_neg hk, if_neg hd]
            rw [hst] at H ⊢
            exact ⟨_, enPA, rfl, plAhead_digit w b s.h s.n sv rv s.rows c c0 c1 hb H k' er' hd'⟩
        by_cases he0 : er = 0
        · rw [if_pos he0]
          obtain ⟨fn, hn, hst, hcall⟩ := hstep k 0 (fun W hW => by
            have := plDigit_any W b s.h s.n sv rv s.rows 0 0 stD hW hG.n0 hG.n1 (by omega) c c0 c1 k er hs (by omega)
            rw [he0] at this; exact this)
          rw [hst] at H
          refine (plPut_open c w b s.h s.n sv rv s.rows fn hn H k stD hcall).mono ?_
          rintro e w' ⟨he, hC, hg⟩
          have hgl := hsl he0
          have hGd : Pl.Good (Pl.digit s k) := ⟨hG.may, hgl.1, hgl.2, (fun h => absurd h (show ¬ true = false by decide)), (fun h => absurd h hk), hG.one, hG.oneIn, hG.row, hG.rows0, (fun _ => hG.rows1 h0), hG.rows2, .inl rfl, fun _ => rfl, (fun h => absurd h (show ¬ (0 : Int) = 2 by decide))⟩
          exact put_open (s := s) (t := Pl.digit s k) hGd rfl T ⟨rfl, rfl, rfl, rfl⟩ he (by
            have : stOf (Pl.digit s k) = stD := by unfold stOf Pl.digit; rw [if_neg hk, if_pos rfl]
            rw [this]; exact hC) hg
        · rw [if_neg he0]
          by_cases he4 : er = 4
          · rw [if_pos he4]
            obtain ⟨fn, hn, hst, hcall⟩ := hstep s.n 5 (fun W hW => plDigit_range W b s.h s.n sv rv s.rows 0 0 stD hW hG.n0 hG.n1 (by omega) c c0 c1 k er hs he4)
            rw [hst] at H
            refine (plPut_err c w b s.h s.n sv rv s.rows fn hn H s.n stD false 5 (by decide) hcall).mono ?_
            rintro e w' ⟨he, hC, hg⟩
            exact put_wrong hG T (.inr (.inl rfl)) he hC hg
          · rw [if_neg he4]
            have he3 : er = 3 := by omega
            obtain ⟨fn, hn, hst, hcall⟩ := hstep k er (fun W hW => plDigit_any W b s.h s.n sv rv s.rows 0 0 stD hW hG.n0 hG.n1 (by omega) c c0 c1 k er hs he4)
            rw [hst] at H
            refine (plPut_err c w b s.h s.n sv rv s.rows fn hn H k stD false er (by omega) hcall).mono ?_
            rintro e w' ⟨he, hC, hg⟩
            exact put_wrong hG T (.inl he3) he hC hg
  · obtain ⟨n, x, hC, hx⟩ := X.ex
    unfold Pl.put
    rw [if_pos (by omega)]
    refine (plPut_done c w b s.h n sv rv s.rows s.last s.e x h0 hC).mono ?_
    rintro e w' ⟨he, j, rfl⟩
    exact ⟨none, 0, sv, rv, he, ⟨hG, X.z, n, x, hC, fun h => absurd h h0⟩, slk_nil, (fun y hy => by cases hy), .drewN _ _ _, .inl rfl, .inl rfl⟩
set_option maxHeartbeats 1000000 in
theorem plEnd_any {s : Pl.S} (w : World) (b : Nat) (sv rv : Value) (X : PlX w b sv rv s) :
    Calls Try.prog 49 #[.pointer (some ⟨b, 0, none⟩)] w (PlPutR w b sv rv (Pl.fin s)) := by
  have HP := Lib.hid (plPut_any 32 (by decide) (by decide) w b sv rv X)
  clear X
  by_cases h0 : (Pl.put s 32).1.last = 0
  · have hf : Pl.fin s = (Pl.wrong (Pl.put s 32).1 6, (Pl.put s 32).2) := by unfold Pl.fin; rw [if_pos h0]
    rw [hf]
    obtain ⟨q, hq⟩ : ∃ q, Pl.put s 32 = q := ⟨_, rfl⟩
    rw [hq] at HP h0 ⊢
    obtain ⟨ol, hol⟩ : ∃ ol, q.2.length = ol := ⟨_, rfl⟩
    have HOL := Lib.hid hol
    have H0 := Lib.hid h0
    clear hf hq hol h0
    go_enter Try.func49, Try.ntmps49
    go_wp2_with fail
    refine HP.out.mono ?_
    rintro e w2 ⟨a, c, sv', rv', rfl, X2, S2, A2, F2, N2, N3⟩
    obtain ⟨n, x, hC, hx⟩ := X2.ex
    rw [HOL.out, H0.out]
    have HX2 := Lib.hid X2
    have HS2 := Lib.hid S2
    have HA2 := Lib.hid A2
    have HF2 := Lib.hid F2
    have HN2 := Lib.hid N2
    have HN3 := Lib.hid N3
    have HC := Lib.hid hC
    clear X2 S2 A2 F2 N2 N3 hx hC
    go_wp2_with (first | (go_at_call 81; refine (plWrong_any w2 b _ _ _ _ _ _ _ _ HC.out 6).mono ?_; rintro e w3 ⟨rfl, h3, hg3⟩; have hd8 := h3.c8; have HH3 := Lib.hid h3; have HG3 := Lib.hid hg3; clear h3 hg3) | go_quiet (fail))
    go_ret2
    refine ⟨a, c, sv', rv', by rw [HOL.out]; rfl, ⟨Pl.good_wrong HX2.out.g (.inr (.inr rfl)), z_up HX2.out.z HG3.out.size, _, _, HH3.out.drewN _, fun h => absurd h (show ¬ (2 : Int) = 0 by decide)⟩, ?_, HA2.out, (HF2.out.trans (.grown HG3.out (.inl rfl))).trans (.drewN _ _ _), HN2.out, HN3.out⟩
    exact slk_kept (w := w2) HS2.out HA2.out (HG3.out.trans (grown_drew _ _ _))
  · have hf : Pl.fin s = Pl.put s 32 := by unfold Pl.fin; rw [if_neg h0]
    rw [hf]
    obtain ⟨q, hq⟩ : ∃ q, Pl.put s 32 = q := ⟨_, rfl⟩
    rw [hq] at HP h0 ⊢
    obtain ⟨t, ht⟩ : ∃ t, q.1.last = t := ⟨_, rfl⟩
    have h0' : (t == 0) = false := by rw [← ht]; simpa using h0
    obtain ⟨ol, hol⟩ : ∃ ol, q.2.length = ol := ⟨_, rfl⟩
    have HOL := Lib.hid hol
    have HT := Lib.hid ht
    clear hf hq hol h0 ht
    go_enter Try.func49, Try.ntmps49
    go_wp2_with fail
    refine HP.out.mono ?_
    rintro e w2 ⟨a, c, sv', rv', rfl, X2, S2, A2, F2, N2, N3⟩
    obtain ⟨n, x, hC, hx⟩ := X2.ex
    have hc8 := hC.c8
    rw [HOL.out, HT.out]
    rw [HT.out] at hc8
    have HX2 := Lib.hid X2
    have HS2 := Lib.hid S2
    have HA2 := Lib.hid A2
    have HF2 := Lib.hid F2
    have HN2 := Lib.hid N2
    have HN3 := Lib.hid N3
    clear X2 S2 A2 F2 N2 N3 hx hC
    go_wp2_with (go_quiet (fail))
    go_ret2
    refine ⟨a, c, sv', rv', by rw [HOL.out, HT.out]; rfl, ⟨HX2.out.g, HX2.out.z, HX2.out.ex⟩, HS2.out, HA2.out, HF2.out.trans (.drewN _ _ _), HN2.out, HN3.out⟩
end Go.Proofs.Ytldhhhmihfcalaa

/- Which heads are read as rasters of digits, and a new reader of one, over any memory. Condition: a head's numbers fit. -/
namespace Go.Proofs.Ytldhhhmihfcalaa
open Go.RowKit
set_option linter.unusedVariables false

instance (h : Hd.H) : Decidable (Pl.May h) := by unfold Pl.May; infer_instance
theorem Pl.may_no {h : Hd.H} (h1 : ¬ Hd.May h) : decide (Pl.May h) = false := decide_eq_false fun H => h1 H.1
set_option maxHeartbeats 1000000 in
theorem plMay_any (h : Hd.H) (hf : Hj.Fit h) (w : World) :
    Calls Try.prog 75 #[agH h] w fun e w' => e = .returned (.bool (decide (Pl.May h))) ∧ Below w.heap.size w w' := by
  have HM := Lib.hid (hmay_any h hf)
  by_cases h1 : Hd.May h
  · have HR := Lib.hid (hraw_any h h1)
    simp only [decide_eq_true h1] at HM
    by_cases h2 : h.kd ≤ 3
    · have X := Lib.hid (show decide (Pl.May h) = true from decide_eq_true ⟨h1, h2⟩)
      simp only [decide_eq_false (show ¬ 3 < h.kd by omega)] at HR
      unfold agH at HM HR ⊢
      clear h1 h2
      go_enter Try.func75, Try.ntmps75
      go_wp2_with (first | (go_at_call 107; refine (HM.out _).mono ?_; rintro e w9 ⟨rfl, hb9⟩; have hBz := Lib.hid (((Below.refl _ w).alloc (Nat.le_refl _) _).trans (hb9.mono (by simp))); obtain ⟨n0, n1, n2, n3⟩ := ((Hb.new w 51 h).later hb9).cells; clear hb9) | (go_at_call 103; refine (HR.out _).mono ?_; rintro e w8 ⟨rfl, hb8⟩))
      go_ret
      exact ⟨ret_b X.out.symm, hBz.out.trans (hb8.mono hBz.out.size)⟩
    · have X := Lib.hid (show decide (Pl.May h) = false from decide_eq_false fun H => h2 H.2)
      simp only [decide_eq_true (show 3 < h.kd by omega)] at HR
      unfold agH at HM HR ⊢
      clear h1 h2
      go_enter Try.func75, Try.ntmps75
      go_wp2_with (first | (go_at_call 107; refine (HM.out _).mono ?_; rintro e w9 ⟨rfl, hb9⟩; have hBz := Lib.hid (((Below.refl _ w).alloc (Nat.le_refl _) _).trans (hb9.mono (by simp))); obtain ⟨n0, n1, n2, n3⟩ := ((Hb.new w 51 h).later hb9).cells; clear hb9) | (go_at_call 103; refine (HR.out _).mono ?_; rintro e w8 ⟨rfl, hb8⟩))
      go_ret
      exact ⟨ret_b X.out.symm, hBz.out.trans (hb8.mono hBz.out.size)⟩
  · have X := Lib.hid (Pl.may_no h1)
    simp only [decide_eq_false h1] at HM
    unfold agH at HM ⊢
    clear h1
    go_enter Try.func75, Try.ntmps75
    go_wp2_with (go_at_call 107; refine (HM.out _).mono ?_; rintro e w9 ⟨rfl, hb9⟩; have hBz := Lib.hid (((Below.refl _ w).alloc (Nat.le_refl _) _).trans (hb9.mono (by simp))))
    go_ret
    exact ⟨ret_b X.out.symm, hBz.out⟩
set_option maxHeartbeats 1000000 in
theorem refPlMay_any (h : Hd.H) (hf : Hj.Fit h) (w : World) :
    Calls Try.prog 53 #[agH h] w fun e w' => e = .returned (.bool (decide (Pl.May h))) ∧ Below w.heap.size w w' := by
  have HM := Lib.hid (refMay_any h hf)
  by_cases h1 : Hd.May h
  · simp only [decide_eq_true h1] at HM
    have X := Lib.hid (show decide (Pl.May h) = decide (h.kd < 4) by
      by_cases h2 : h.kd ≤ 3
      · rw [decide_eq_true (show h.kd < 4 by omega)]; exact decide_eq_true ⟨h1, h2⟩
      · rw [decide_eq_false (show ¬ h.kd < 4 by omega)]; exact decide_eq_false fun H => h2 H.2)
    unfold agH at HM ⊢
    clear h1
    go_enter Try.func53, Try.ntmps53
    go_wp2_with (go_at_call 67; refine (HM.out _).mono ?_; rintro e w9 ⟨rfl, hb9⟩; have hBz := Lib.hid (((Below.refl _ w).alloc (Nat.le_refl _) _).trans (hb9.mono (by simp))); obtain ⟨n0, n1, n2, n3⟩ := ((Hb.new w 42 h).later hb9).cells; clear hb9)
    go_ret
    exact ⟨ret_b X.out.symm, hBz.out⟩
  · have X := Lib.hid (Pl.may_no h1)
    simp only [decide_eq_false h1] at HM
    unfold agH at HM ⊢
    clear h1
    go_enter Try.func53, Try.ntmps53
    go_wp2_with (go_at_call 67; refine (HM.out _).mono ?_; rintro e w9 ⟨rfl, hb9⟩; have hBz := Lib.hid (((Below.refl _ w).alloc (Nat.le_refl _) _).trans (hb9.mono (by simp))); obtain ⟨n0, n1, n2, n3⟩ := ((Hb.new w 42 h).later hb9).cells; clear hb9)
    go_ret
    exact ⟨ret_b X.out.symm, hBz.out⟩
/-- a new reader -/
def PlNewR (h : Hd.H) (w : World) (e : Ending) (w' : World) : Prop :=
  ∃ b, e = .returned (.tuple #[.pointer (some ⟨b, 0, none⟩), .int .i64 0]) ∧ w.heap.size ≤ b ∧ PlX w' b (.slice none 0 0) (.slice none 0 0) (Pl.new h) ∧ Below w.heap.size w w'
theorem new_x {w : World} {b : Nat} {h : Hd.H} (hm : Pl.May h) {x : Value} (hx : x = stOf (Pl.new h)) (H : PlC w b h 0 (.slice none 0 0) (.slice none 0 0) 0 0 0 x) : PlX w b (.slice none 0 0) (.slice none 0 0) (Pl.new h) :=
  ⟨Pl.good_new hm, (fun k hk => hk.elim (fun h => by subst h; exact ⟨Nat.le_refl _, H.lt⟩) fun h => h.elim (fun h => by cases h) fun h => by cases h), 0, x, H, fun _ => ⟨rfl, hx, World.ownsRow_nil _ _ _ _, World.ownsRow_nil _ _ _ _⟩⟩
set_option maxRecDepth 100000 in
set_option maxHeartbeats 1000000 in
theorem plNew_yes (h : Hd.H) (hf : Hj.Fit h) (hm : Pl.May h) (w : World) :
    Calls Try.prog 42 #[agH h] w (PlNewR h w) := by
  have HM := Lib.hid (plMay_any h hf)
  simp only [decide_eq_true hm] at HM
  by_cases hk : h.kd = 1
  · have hx : stB = stOf (Pl.new h) := by unfold stOf; rw [if_pos (show (Pl.new h).h.kd = 1 from hk)]
    have HX := Lib.hid hx
    have hk' : (h.kd == 1) = true := by simpa using hk
    have HM' := Lib.hid hm
    unfold agH at HM ⊢
    clear hk hx hm
    go_enter Try.func42, Try.ntmps42
    go_wp2_with (go_at_call 75; refine (HM.out _).mono ?_; rintro e w9 ⟨rfl, hb9⟩; have hBz := Lib.hid (((Below.refl _ w).alloc (Nat.le_refl _) _).trans (hb9.mono (by simp))); have hz9 := Lib.hid (show w.heap.size + 1 ≤ w9.heap.size by have := hb9.size; simpa using this); obtain ⟨n0, n1, n2, n3⟩ := ((Hb.new w 51 h).later hb9).cells; have hlt : w.heap.size < w9.heap.size := (by have := hb9.size; simp at this; omega); have hne : ¬ w.heap.size = w9.heap.size := Nat.ne_of_lt hlt; clear hb9)
    go_ret2
    refine ⟨w9.heap.size, rfl, by have := hBz.out.size; omega, new_x HM'.out HX.out ?_, ?_⟩
    · exact (plain_cells w9 h (.slice none 0 0) (.slice none 0 0) 0 0 0 0 stB)
    · exact hBz.out.alloc hBz.out.size _
  · have hx : stA = stOf (Pl.new h) := by unfold stOf; rw [if_neg (show ¬ (Pl.new h).h.kd = 1 from hk)]; rfl
    have HX := Lib.hid hx
    have hk' : (h.kd == 1) = false := by simpa using hk
    have HM' := Lib.hid hm
    unfold agH at HM ⊢
    clear hk hx hm
    go_enter Try.func42, Try.ntmps42
    go_wp2_with (go_at_call 75; refine (HM.out _).mono ?_; rintro e w9 ⟨rfl, hb9⟩; have hBz := Lib.hid (((Below.refl _ w).alloc (Nat.le_refl _) _).trans (hb9.mono (by simp))); obtain ⟨n0, n1, n2, n3⟩ := ((Hb.new w 51 h).later hb9).cells; have hlt : w.heap.size < w9.heap.size := (by have := hb9.size; simp at this; omega); have hne : ¬ w.heap.size = w9.heap.size := Nat.ne_of_lt hlt; clear hb9)
    go_ret2
    refine ⟨w9.heap.size, rfl, by have := hBz.out.size; omega, new_x HM'.out HX.out ?_, ?_⟩
    · exact (plain_cells w9 h (.slice none 0 0) (.slice none 0 0) 0 0 0 0 stA)
    · exact hBz.out.alloc hBz.out.size _
set_option maxHeartbeats 1000000 in
theorem plNew_no (h : Hd.H) (hf : Hj.Fit h) (hm : ¬ Pl.May h) (w : World) :
    Calls Try.prog 42 #[agH h] w fun e w' => e = .returned (.tuple #[.pointer none, .int .i64 1]) ∧ Below w.heap.size w w' := by
  have HM := Lib.hid (plMay_any h hf)
  simp only [decide_eq_false hm] at HM
  unfold agH at HM ⊢
  clear hm
  go_enter Try.func42, Try.ntmps42
  go_wp2_with (go_at_call 75; refine (HM.out _).mono ?_; rintro e w9 ⟨rfl, hb9⟩; have hBz := Lib.hid (((Below.refl _ w).alloc (Nat.le_refl _) _).trans (hb9.mono (by simp))))
  go_ret2
  exact ⟨rfl, hBz.out⟩
end Go.Proofs.Ytldhhhmihfcalaa

/- Pixels of a head, made of any numbers, by the document, over any memory. Condition: the head may be, there are not too many. -/
namespace Go.Proofs.Ytldhhhmihfcalaa
open Go.RowKit
set_option linter.unusedVariables false

theorem one_slk (w : World) (q : IntKind) (x : Int) (t : TypeId) : SlK q (w.alloc (.cells #[.int q x] t)) (some ⟨w.heap.size, 0, none⟩) 1 [x] := by
  refine ⟨rfl, .inr ⟨w.heap.size, 0, rfl, fun i hi => ?_⟩⟩
  obtain rfl : i = 0 := by omega
  rw [World.cell?_alloc_at _ _ _ _ rfl]; rfl
/-- pixels that fit a head -/
def Pl.Fits (G : Hd.H) (l : List Int) : Prop := ∀ p ∈ l, Pq.GoodP p (Hj.chan G) G.m
/-- what is so at the loops' rounds -/
def PxOut (w3 : World) (N : Nat) (G : Hd.H) (u6 u7 : Value) (wr : World) : Prop :=
  ∃ (i : Nat) (gs : List Int) (v : Value), i ≤ N ∧ u7 = .int .i64 i ∧ v = u6 ∧ wr.ownsRow w3.heap.size 88 1 v i (pixs gs) ∧ gs.length = i ∧ Pl.Fits G gs ∧ Below w3.heap.size w3 wr
def PxIn (w3 : World) (c i : Nat) (gs : List Int) (v u8 u9 : Value) (wr : World) : Prop :=
  ∃ (k : Nat) (zs : List Int) (u : Value), k ≤ c ∧ u9 = .int .i64 k ∧ u = u8 ∧ wr.ownsRow w3.heap.size 3 1 u k (ints zs) ∧ zs.length = k ∧ (∀ x ∈ zs, Nu.I x) ∧ wr.ownsRow w3.heap.size 88 1 v i (pixs gs) ∧ Below w3.heap.size w3 wr
/-- what Pixels hands back -/
def PxR (N : Nat) (G : Hd.H) (w : World) (e : Ending) (w' : World) : Prop :=
  ∃ ad cp l, e = .returned (.slice ad N cp) ∧ l.length = N ∧ Pl.Fits G l ∧ w'.ownsRow w.heap.size 88 1 (.slice ad N cp) N (pixs l) ∧ Below w.heap.size w w'
set_option maxRecDepth 100000 in
set_option maxHeartbeats 4000000 in
theorem refPixels_zero (a : Option Addr) (ln cap : Nat) (z : List Int) (G : Hd.H) (hm : Pl.May G) (N : Nat) (hN : G.w * G.h = (N : Int)) (hN1 : N ≤ 100000) (w : World) (hz : ln = 0) (hs : SlK .i64 w a ln z) (hI : ∀ x ∈ z, Nu.I x) :
    Calls Try.prog 50 #[.slice a ln cap, agH G] w (PxR N G w) := by
  have hmm := hm.m
  have hF := refFormat_any G hm.1
  have hcc := Hj.chan_at G
  unfold Hj.fm agH at hF
  obtain ⟨i0, hi, hz0, hz1, hz2⟩ : ∃ i, Try.prog.info? 3 = some i ∧ i.zero = some (.int .i64 0) ∧ i.size = 1 ∧ i.bytes = 8 := (by have h := Try.info_in8; cases hh : Try.prog.info? 3 with | none => rw [hh] at h; cases h | some i => rw [hh] at h; simp at h; exact ⟨i, rfl, h.1, h.2.1, h.2.2⟩)
  obtain ⟨p0, pi, pz0, pz1, pz2⟩ : ∃ i, Try.prog.info? 88 = some i ∧ i.zero = some (.int .u64 0) ∧ i.size = 1 ∧ i.bytes = 8 := (by have h := Try.info_px8; cases hh : Try.prog.info? 88 with | none => rw [hh] at h; cases h | some i => rw [hh] at h; simp at h; exact ⟨i, rfl, h.1, h.2.1, h.2.2⟩)
  have hte : 3 ≠ 88 := by decide
  obtain ⟨c, hc⟩ : ∃ c : Nat, Hj.chan G = (c : Int) := ⟨(Hj.chan G).toNat, by omega⟩
  have hc13 : c = 1 ∨ c = 3 := by omega
  have HGP : Hid (∀ l, Pq.GoodP (Pq.Px.goodV l c G.m) c G.m) := Lib.hid fun l => Pq.good_is l (by omega) (by omega) (by omega)
  have HGS : Hid (∀ (a : Option Addr) (len cap : Nat) (l : List Int) (W : World), len ≤ 9223372036854775807 → (∀ x ∈ l, Nu.I x) → Pq.Sl W a len l → Calls Try.prog 85 #[.slice a len cap, .agg #[.int .i64 c, .int .i64 G.m]] W fun e w' => e = .returned (.int .u64 (Pq.Px.goodV l c G.m)) ∧ Below W.heap.size W w') := Lib.hid fun a len cap l W h1 h2 h3 => Pq.good_sl a len cap l c G.m h1 (fun x hx => h2 x hx) (by omega) (by omega) (by omega) W h3
  rw [hc] at hF
  have HF := Lib.hid hF
  have HS := Lib.hid hs
  subst hz
  have HI := Lib.hid hI
  have HC := Lib.hid hc
  have HN := Lib.hid hN
  have gN : wrap64 (G.w * G.h) = (N : Int) := by rw [hN, IntWalk.wrap64_in] <;> omega
  clear hF hs hI hc hN hmm hm hcc
  unfold agH
  go_enter Try.func50, Try.ntmps50
  go_wp2_with fail
  refine (HF.out _).mono ?_
  rintro e w1 ⟨rfl, hb⟩
  have HB1 := Lib.hid (((Below.refl _ w).alloc (Nat.le_refl _) _).trans (hb.mono (by simp)))
  have HK1 := Lib.hid ((Hb.new w 42 G).later hb)
  clear hb
  go_upto_region 3 with fail
  generalize hW : w1.alloc (.cells #[.int .i64 c, .int .i64 G.m] 137) = w3
  have hx : Below w1.heap.size w1 w3 := by rw [← hW]; exact box1' _ _
  have l0 : w3.cell? ⟨w1.heap.size, 0, none⟩ = some (.int .i64 c) := by rw [← hW]; simp [go_sem]
  have l1 : w3.cell? ⟨w1.heap.size, 1, none⟩ = some (.int .i64 G.m) := by rw [← hW]; simp [go_sem]
  have HB3 := Lib.hid (HB1.out.trans (hx.mono HB1.out.size))
  have HK3 := Lib.hid (HK1.out.later hx)
  have HL0 := Lib.hid l0
  have HL1 := Lib.hid l1
  clear hW hx l0 l1 HB1 HK1
  go_wp2_with fail
  go_loopw [6, 7] (fun u6 u7 wr => PxOut w3 N G u6 u7 wr) (fun _ u7 _ => N - (intOf u7).toNat)
  case atStart => exact ⟨0, [], _, Nat.zero_le _, rfl, rfl, World.ownsRow_nil _ _ _ _, rfl, (fun p hp => by cases hp), .refl _ _⟩
  case round =>
    obtain ⟨i, gs, v, hi1, rfl, rfl, hrow, hgl, hfit, hB⟩ := hrel
    have HROW := Lib.hid hrow
    have HFIT := Lib.hid hfit
    have HGL := Lib.hid hgl
    have HB := Lib.hid hB
    have hK := HK3.out.later hB
    obtain ⟨k0, k1, k2, k3⟩ := hK.cells
    clear hrow hfit hgl hB hK
    by_cases hlt : i < N
    · have hP : (i : Int) * (c : Int) = ((i * c : Nat) : Int) := by simp
      obtain ⟨P, hPP⟩ : ∃ P : Nat, i * c = P := ⟨_, rfl⟩
      rw [hPP] at hP
      have hP1 : P ≤ 300000 := by rw [← hPP]; rcases hc13 with h | h <;> subst h <;> omega
      have gP : wrap64 ((i : Int) * (c : Int)) = (P : Int) := by rw [hP, IntWalk.wrap64_in] <;> omega
      have HP := Lib.hid hP
      clear hP hPP
      go_wp2_with fail
      clear k0 k1 k2 k3 gN
      go_loopw [8, 9, 10] (fun u8 u9 u10 wr => PxIn w3 c i gs v u8 u9 wr) (fun _ u9 _ _ => c - (intOf u9).toNat)
      case atStart => exact ⟨0, [], _, Nat.zero_le _, rfl, rfl, World.ownsRow_nil _ _ _ _, rfl, (fun x hx => by cases hx), HROW.out, HB.out⟩
      case round =>
        obtain ⟨k, zs, u, hk1, rfl, rfl, hro, hzl, hzI, hrp, hC⟩ := hrel
        have HRO := Lib.hid hro
        have HZI := Lib.hid hzI
        have HZL := Lib.hid hzl
        have HRP := Lib.hid hrp
        have HC2 := Lib.hid hC
        have l0 := cell_later hC HL0.out
        have l1 := cell_later hC HL1.out
        clear hro hzI hzl hrp hC HROW HB
        by_cases hkt : k < c
        · have hck : c ≤ 3 := by omega
          go_wp2_with (at_builtin; refine wpList_app rfl _ _ 75 rfl w3.heap.size 3 i0 .i64 8 Try.underlying75 hi hz0 hz1 hz2 u k (ints zs) rfl (HRO.out.alloc _) (some ⟨_, 0, none⟩) 1 1 [0] rfl (one_slk _ _ _ _) (by unfold maxLen; omega) (by omega) (by have := HC2.out.size; simp; omega) ?_; intro v2 w5 hown hgrow hat; have HO5 := Lib.hid hown; have HR5 := Lib.hid ((HRP.out.alloc _).kept hgrow (apart_rows (Ne.symm hte) HRP.out HRO.out)); have HC5 := Lib.hid ((HC2.out.alloc HC2.out.size _).grown hgrow (by have := HC2.out.size; simp; omega) (fun j ej => (HRO.out.lt j ej).1)); clear hown hgrow hat)
          go_roundw
          case rel => exact ⟨k + 1, zs ++ [0], v2, by omega, by go_num, rfl, by have h := HO5.out; unfold ints; rw [List.map_append]; exact h, by rw [List.length_append, HZL.out]; rfl, (fun x hx => by
            rcases List.mem_append.1 hx with h | h
            · exact HZI.out x h
            · rw [List.mem_singleton.1 h]; unfold Nu.I; omega), HR5.out, HC5.out⟩
          case measure => simp [intOf]; omega
        · have hkc : k = c := by omega
          subst hkc
          obtain ⟨a', c', rfl, hsl⟩ := sl_of_row (z := 0) rfl HRO.out HZL.out
          have HSL := Lib.hid hsl
          obtain ⟨g, hg⟩ : ∃ g, Pq.Px.goodV zs k G.m = g := ⟨_, rfl⟩
          have HGG := Lib.hid hg
          clear hsl hg
          have hk9 : k ≤ 3 := by omega
          go_wp2_with (first
            | (at_builtin; refine wpList_app rfl _ _ 22 rfl w3.heap.size 88 p0 .u64 8 Try.underlying22 pi pz0 pz1 pz2 v i (pixs gs) rfl (HR9.out.alloc _) (some ⟨_, 0, none⟩) 1 1 [g] rfl (one_slk _ _ _ _) (by unfold maxLen; omega) (by omega) (by have := HC9.out.size; simp; omega) ?_; intro v2 w5 hown hgrow hat; have HO5 := Lib.hid hown; have HC5 := Lib.hid ((HC9.out.alloc HC9.out.size _).grown hgrow (by have := HC9.out.size; simp; omega) (fun j ej => (HR9.out.lt j ej).1)); clear hown hgrow hat)
            | (go_at_call 85; refine (HGS.out a' k c' zs _ (by omega) HZI.out HSL.out).mono ?_; rw [HGG.out]; rintro e w9 ⟨rfl, hb⟩; have HR9 := Lib.hid (below_row HRP.out hb); have HC9 := Lib.hid (HC2.out.trans (hb.mono HC2.out.size)); clear hb))
          go_roundw
          case rel => exact ⟨i + 1, gs ++ [g], v2, by omega, by go_num, rfl, by have h := HO5.out; unfold pixs; rw [List.map_append]; exact h, by rw [List.length_append, HGL.out]; rfl, (fun x hx => by
            rcases List.mem_append.1 hx with h | h
            · exact HFIT.out x h
            · rw [List.mem_singleton.1 h, ← HGG.out, HC.out]; exact HGP.out zs), HC5.out⟩
          case measure => simp [intOf]; omega
    · have hiN : i = N := by omega
      obtain ⟨ad, cp, rfl, _⟩ : ∃ ad cp, v = .slice ad i cp ∧ True := by
        rcases HROW.out.2 with ⟨rfl, rfl⟩ | ⟨g, cap, cur, rfl, _⟩
        · exact ⟨none, 0, rfl, trivial⟩
        · exact ⟨_, _, rfl, trivial⟩
      subst hiN
      go_wp2
      go_ret
      exact ⟨ad, cp, gs, rfl, HGL.out, HFIT.out, ownsRow_base HROW.out (HB3.out.size), HB3.out.trans (HB.out.mono HB3.out.size)⟩
end Go.Proofs.Ytldhhhmihfcalaa

/- Plain facts on rasters of digits that are written: their bytes. No condition. -/
namespace Go.Proofs.Ytldhhhmihfcalaa
open Go.RowKit
set_option linter.unusedVariables false
namespace Pl
/-- the first k samples, a blank behind each but the last one of all -/
def wTk (zs : List Int) : Nat → List Int
  | 0 => []
  | k + 1 => wTk zs k ++ Nu.decV (zs.getD k 0) ++ (if k + 1 < zs.length then [32] else [])
def wLn (G : Hd.H) (i : Nat) : Bool := decide (1 < G.kd) || ((i : Int) % G.w == G.w - 1) || ((i : Int) % G.w % 70 == 69)
/-- the first i pixels -/
def wAll (G : Hd.H) (l : List Int) : Nat → List Int
  | 0 => []
  | i + 1 => wAll G l i ++ wTk (Pq.Px.smp (l.getD i 0)) (Pq.Px.smp (l.getD i 0)).length ++ (if wLn G i = true then [10] else [])
theorem wTk_len {zs : List Int} (h : ∀ s ∈ zs, Nu.I s) : ∀ k, k ≤ zs.length → (wTk zs k).length ≤ 67 * k
  | 0, _ => by simp [wTk]
  | k + 1, hk => by
    have h1 := wTk_len h k (by omega)
    have h2 := Nu.decV_len (h (zs.getD k 0) (getD_mem (by omega)))
    simp only [wTk, List.length_append]
    split
    · rw [List.length_singleton]; omega
    · rw [List.length_nil]; omega
theorem goodU {G : Hd.H} {l : List Int} (hl : Fits G l) : ∀ p ∈ l, Pq.Px.U p := fun p hp => Pq.goodU (hl p hp)
theorem wAll_len {G : Hd.H} {l : List Int} (hl : ∀ p ∈ l, Pq.Px.U p) : ∀ i, i ≤ l.length → (wAll G l i).length ≤ 202 * i
  | 0, _ => by simp [wAll]
  | i + 1, hi => by
    have h1 := wAll_len (G := G) hl i (by omega)
    have hU := hl (l.getD i 0) (getD_mem (by omega))
    have h2 := wTk_len (smp_I hU) _ (Nat.le_refl _)
    have h3 := (smp_in hU).1
    simp only [wAll, List.length_append]
    split
    · rw [List.length_singleton]; omega
    · rw [List.length_nil]; omega
theorem fits_true {p c m : Int} (h : Pq.GoodP p c m) (m1 : 1 ≤ m) (m2 : m ≤ 65535) : Pq.Px.fitsV p c m = true := by
  rcases h with ⟨rfl, x, y, z, h3, hx, hy, hz⟩ | ⟨rfl, x, h1, hx⟩
  · rw [Pq.Px.fitsV3_all h3 hx hy hz]
    simp [Pq.Px.formatV, m1, m2]
  · rw [Pq.Px.fitsV1_all h1 hx]
    simp [Pq.Px.formatV, m1, m2]
/-- do all pixels fit -/
def fitAll (G : Hd.H) (l : List Int) : Bool := l.all fun p => Pq.Px.fitsV p (Hj.chan G) G.m
/-- a raster's text, or none -/
def wV (G : Hd.H) (l : List Int) : Value := if fitAll G l = true then .tuple #[.string (strOfNums (wAll G l l.length)), .int .i64 0] else .tuple #[.string ⟨#[]⟩, .int .i64 1]
theorem fitAll_no {G : Hd.H} {l : List Int} {k : Nat} (hk : k < l.length) (h : Pq.Px.fitsV (l.getD k 0) (Hj.chan G) G.m = false) : fitAll G l = false := by
  unfold fitAll
  rw [List.all_eq_false]
  exact ⟨_, getD_mem hk, by rw [h]; decide⟩
theorem fitAll_yes {G : Hd.H} {l : List Int} (h : ∀ j, j < l.length → Pq.Px.fitsV (l.getD j 0) (Hj.chan G) G.m = true) : fitAll G l = true := by
  unfold fitAll
  rw [List.all_eq_true]
  intro p hp
  obtain ⟨j, hj, rfl⟩ := List.mem_iff_getElem.1 hp
  have := h j hj
  rwa [List.getD_eq_getElem?_getD, List.getElem?_eq_getElem hj] at this
theorem wAll_succ (G : Hd.H) (l : List Int) (i : Nat) : wAll G l (i + 1) = wAll G l i ++ wTk (Pq.Px.smp (l.getD i 0)) (Pq.Px.smp (l.getD i 0)).length ++ (if wLn G i = true then [10] else []) := rfl
theorem wTk_succ (zs : List Int) (k : Nat) : wTk zs (k + 1) = wTk zs k ++ Nu.decV (zs.getD k 0) ++ (if k + 1 < zs.length then [32] else []) := rfl
theorem ln_yes1 {G : Hd.H} {i : Nat} (h : ¬ G.kd ≤ 1) : wLn G i = true := by
  have : 1 < G.kd := by omega
  simp [wLn, this]
theorem ln_yes2 {G : Hd.H} {i gw : Nat} (hg : G.w = (gw : Int)) (h : (i : Int) % (gw : Int) = (gw : Int) - 1) : wLn G i = true := by
  simp [wLn, hg, h]
theorem ln_yes3 {G : Hd.H} {i gw : Nat} (hg : G.w = (gw : Int)) (h : (1 < G.kd ∨ ((i : Int) % (gw : Int) == (gw : Int) - 1) = true) ∨ ((i : Int) % (gw : Int) % 70 == 69) = true) : wLn G i = true := by
  unfold wLn; rw [hg]
  rcases h with (h | h) | h
  · simp [h]
  · rw [h]; simp
  · rw [h]; simp
theorem ln_no {G : Hd.H} {i gw : Nat} (hg : G.w = (gw : Int)) (h : (G.kd ≤ 1 ∧ ((i : Int) % (gw : Int) == (gw : Int) - 1) = false) ∧ ((i : Int) % (gw : Int) % 70 == 69) = false) : wLn G i = false := by
  have h1 : ¬ 1 < G.kd := by omega
  unfold wLn; rw [hg, h.1.2, h.2]; simp [h1]
theorem str32 : (⟨#[32]⟩ : ByteArray) = strOfNums [32] := rfl
theorem str10 : (⟨#[10]⟩ : ByteArray) = strOfNums [10] := rfl
end Pl
end Go.Proofs.Ytldhhhmihfcalaa

/- All pixels of a raster of digits, as a plain function; a reader beside a list that grows. No condition. -/
namespace Go.Proofs.Ytldhhhmihfcalaa
open Go.RowKit
set_option linter.unusedVariables false
namespace Pl
/-- told the rest of a text, i bytes in -/
def readF : S → Nat → List Int → List Int → List Int × Int × Int
  | s, i, acc, [] => if (fin s).1.last = 2 then ([], 0, (fin s).1.e) else (acc ++ (fin s).2, (i : Int), 0)
  | s, i, acc, c :: cs =>
    if (put s c).1.last = 1 then (acc ++ (put s c).2, (i : Int) + 1, 0)
    else if (put s c).1.last = 2 then ([], 0, (put s c).1.e)
    else readF (put s c).1 (i + 1) (acc ++ (put s c).2) cs
def readV (h : Hd.H) (x : List Int) : List Int × Int × Int := if May h then readF (new h) 0 [] x else ([], 0, 1)
theorem readF_over {s : S} {q : S × List Int} {i : Nat} {acc : List Int} {c : Int} {cs : List Int} (hq : put s c = q) (h : q.1.last = 1) : readF s i acc (c :: cs) = (acc ++ q.2, (i : Int) + 1, 0) := by rw [readF, hq, if_pos h]
theorem readF_wrong {s : S} {q : S × List Int} {i : Nat} {acc : List Int} {c : Int} {cs : List Int} (hq : put s c = q) (h : q.1.last = 2) : readF s i acc (c :: cs) = ([], 0, q.1.e) := by rw [readF, hq, if_neg (by omega), if_pos h]
theorem readF_more {s : S} {q : S × List Int} {i : Nat} {acc : List Int} {c : Int} {cs : List Int} (hq : put s c = q) (h : q.1.last = 0) : readF s i acc (c :: cs) = readF q.1 (i + 1) (acc ++ q.2) cs := by rw [readF, hq, if_neg (by omega), if_neg (by omega)]
theorem readF_nil {s : S} {q : S × List Int} {i : Nat} {acc : List Int} (hq : fin s = q) : readF s i acc [] = if q.1.last = 2 then ([], 0, q.1.e) else (acc ++ q.2, (i : Int), 0) := by rw [readF, hq]
theorem sample_grow (s : S) (n : Int) : (sample s n).2.length + (sample s n).1.row.length ≤ s.row.length + 1 := by
  unfold sample
  split
  · simp [more]
  · split <;> simp [pixel, line]
theorem put_grow (s : S) (c : Int) : (put s c).2.length + (put s c).1.row.length ≤ s.row.length + 1 := by
  unfold put
  split
  · simp
  split
  · split
    · exact sample_grow s _
    · simp
  split
  · split
    · exact sample_grow s _
    · simp [wrong]
  split
  · simp [digit]
  · simp [wrong]
theorem fin_grow (s : S) : (fin s).2.length ≤ s.row.length + 1 := by
  have := put_grow s 32
  unfold fin
  split
  · show (put s 32).2.length ≤ _; omega
  · omega
theorem fin_last {s : S} (hG : Good s) : (fin s).1.last = 1 ∨ (fin s).1.last = 2 := by
  have hg := (good_put hG 32).last
  unfold fin
  split
  · exact .inr rfl
  · omega
end Pl
/-- a list's memory is not the reader's -/
def Ap (v : Value) (b : Nat) (sv rv : Value) : Prop := ∀ k, v.ownBlock = some k → ¬ PlZ b sv rv k
theorem ap_nil (b : Nat) (sv rv : Value) : Ap (.slice none 0 0) b sv rv := fun k hk => by cases hk
theorem Ap.ne {v : Value} {b : Nat} {sv rv : Value} (h : Ap v b sv rv) : some b ≠ v.ownBlock := fun e => h b e.symm (.inl rfl)
theorem Ap.s {v : Value} {b : Nat} {sv rv : Value} (h : Ap v b sv rv) : sv.ownBlock = none ∨ sv.ownBlock ≠ v.ownBlock := by
  cases hv : sv.ownBlock with
  | none => exact .inl rfl
  | some k => right; intro e; exact h k e.symm (.inr (.inl hv))
theorem Ap.r {v : Value} {b : Nat} {sv rv : Value} (h : Ap v b sv rv) : rv.ownBlock = none ∨ rv.ownBlock ≠ v.ownBlock := by
  cases hv : rv.ownBlock with
  | none => exact .inl rfl
  | some k => right; intro e; exact h k e.symm (.inr (.inr hv))
theorem row_sep {w w2 : World} {b : Nat} {sv rv v : Value} {base k : Nat} {e : TypeId} {xs : List Value} (hr : w.ownsRow base e 1 v k xs) (hs : Sep (PlZ b sv rv) w w2) (ha : Ap v b sv rv) : w2.ownsRow base e 1 v k xs := by
  refine ⟨hr.1, ?_⟩
  rcases hr.2 with h | ⟨g, cap, cur, rfl, hb, hg, r⟩
  · exact .inl h
  · exact .inr ⟨g, cap, cur, rfl, hb, (hs.block g (Array.getElem?_eq_some_iff.1 hg).1 (ha g rfl)).trans hg, r⟩
theorem ap_put {w : World} {b base k : Nat} {sv rv sv' rv' v : Value} {e : TypeId} {xs : List Value} (hr : w.ownsRow base e 1 v k xs) (ha : Ap v b sv rv) (hs : PlNew w sv sv') (hn : PlNew w rv rv') : Ap v b sv' rv' := by
  intro j hj hz
  have hlt := (hr.lt j hj).2
  have hnz := ha j hj
  rcases hz with rfl | hz | hz
  · exact hnz (.inl rfl)
  · rcases hs with h | h
    · exact hnz (.inr (.inl (by rw [← h]; exact hz)))
    · have := h j hz; omega
  · rcases hn with h | h
    · exact hnz (.inr (.inr (by rw [← h]; exact hz)))
    · have := h j hz; omega
theorem PlX.lt {w : World} {b : Nat} {sv rv : Value} {s : Pl.S} (X : PlX w b sv rv s) : b < w.heap.size := by obtain ⟨n, x, hC, _⟩ := X.ex; exact hC.lt
theorem PlX.kept {w w' : World} {b : Nat} {sv rv v : Value} {s : Pl.S} (X : PlX w b sv rv s) (ha : Ap v b sv rv) (hg : w.grownBy w' v.ownBlock) : PlX w' b sv rv s := by
  obtain ⟨n, x, hC, hx⟩ := X.ex
  refine ⟨X.g, z_up X.z hg.size, n, x, hC.kept hg ha.ne, fun h0 => ?_⟩
  obtain ⟨e1, e2, h1, h2⟩ := hx h0
  exact ⟨e1, e2, h1.kept hg ha.s, h2.kept hg ha.r⟩
theorem PlX.later {w w' : World} {b : Nat} {sv rv : Value} {s : Pl.S} (X : PlX w b sv rv s) (hb : Below w.heap.size w w') : PlX w' b sv rv s := by
  obtain ⟨n, x, hC, hx⟩ := X.ex
  refine ⟨X.g, z_up X.z hb.size, n, x, hC.later hb, fun h0 => ?_⟩
  obtain ⟨e1, e2, h1, h2⟩ := hx h0
  exact ⟨e1, e2, below_row h1 hb, below_row h2 hb⟩
theorem ap_app {w : World} {b : Nat} {sv rv v v' : Value} {s : Pl.S} (X : PlX w b sv rv s) (ha : Ap v b sv rv) (hat : v'.ownBlock = v.ownBlock ∨ v'.ownBlock = some w.heap.size) : Ap v' b sv rv := by
  intro k hk hz
  rcases hat with h | h
  · exact ha k (by rw [← h]; exact hk) hz
  · rw [h] at hk; cases hk
    have := (X.z _ hz).2; omega
theorem plError_x {w : World} {b : Nat} {sv rv : Value} {s : Pl.S} (X : PlX w b sv rv s) :
    Calls Try.prog 47 #[.pointer (some ⟨b, 0, none⟩)] w fun e w' => e = .returned (.int .i64 s.e) ∧ w = w' := by
  obtain ⟨n, x, hC, _⟩ := X.ex
  exact plError_any w b s.h n sv rv s.rows s.last s.e x hC
theorem plRows_x {w : World} {b : Nat} {sv rv : Value} {s : Pl.S} (X : PlX w b sv rv s) :
    Calls Try.prog 46 #[.pointer (some ⟨b, 0, none⟩)] w fun e w' => e = .returned (.int .i64 s.rows) ∧ w = w' := by
  obtain ⟨n, x, hC, _⟩ := X.ex
  exact plRows_any w b s.h n sv rv s.rows s.last s.e x hC
theorem slk_row {w : World} {base k : Nat} {v : Value} {l : List Int} (hr : w.ownsRow base 88 1 v k (pixs l)) (hk : l.length = k) :
    ∃ a c, v = .slice a k c ∧ SlK .u64 w a k l := by
  rcases hr.2 with ⟨rfl, rfl⟩ | ⟨g, cap, cur, rfl, hb, hg, hle, hm, hs, ht⟩
  · exact ⟨none, 0, rfl, hk, .inl rfl⟩
  · exact ⟨_, cap, rfl, slk_of_row (c := cap) hr hk⟩
/-- all pixels, told -/
def RdR (t : List Int × Int × Int) (w : World) (e : Ending) (w' : World) : Prop :=
  ∃ a c, e = .returned (.tuple #[.slice a t.1.length c, .int .i64 t.2.1, .int .i64 t.2.2]) ∧ SlK .u64 w' a t.1.length t.1 ∧ Below w.heap.size w w'
theorem rdr_nil {t : List Int × Int × Int} {e1 e2 : Int} (ht : t = ([], e1, e2)) {w w' : World} (hB : Below w.heap.size w w') : RdR t w (.returned (.tuple #[.slice none 0 0, .int .i64 e1, .int .i64 e2])) w' :=
  ⟨none, 0, by rw [ht]; rfl, by rw [ht]; exact slk_nil, hB⟩
theorem rdr_row {t : List Int × Int × Int} {l : List Int} {e1 e2 x : Int} (ht : t = (l, e1, e2)) (hx : x = e1) {w w' : World} {base k : Nat} {v : Value} (hr : w'.ownsRow base 88 1 v k (pixs l)) (hk : l.length = k) (hB : Below w.heap.size w w') : RdR t w (.returned (.tuple #[v, .int .i64 x, .int .i64 e2])) w' := by
  obtain ⟨a, c, rfl, hs⟩ := slk_row hr hk
  subst hk; subst hx
  exact ⟨a, c, by rw [ht], by rw [ht]; exact hs, hB⟩
end Go.Proofs.Ytldhhhmihfcalaa

/- Plain facts on rasters of digits that are read: samples, with blanks behind. No condition. -/
namespace Go.Proofs.Ytldhhhmihfcalaa
open Go.RowKit
set_option linter.unusedVariables false
namespace Pl
def putS (s : S) (t : List Int) : S := t.foldl (fun s c => (put s c).1) s
/-- told t it is s', and told these pixels -/
def Run (s : S) (t : List Int) (s' : S) (out : List Int) : Prop :=
  putS s t = s' ∧ ∀ (i : Nat) (acc cs : List Int), readF s i acc (t ++ cs) = readF s' (i + t.length) (acc ++ out) cs
theorem Run.none (s : S) : Run s [] s [] := ⟨rfl, fun i acc cs => by simp⟩
theorem Run.one {s : S} {c : Int} {q : S × List Int} (hq : put s c = q) (h : q.1.last = 0) : Run s [c] q.1 q.2 :=
  ⟨by simp [putS, hq], fun i acc cs => by rw [List.singleton_append, readF_more hq h]; rfl⟩
theorem Run.app {s s' s2 : S} {t t' o o' : List Int} (h1 : Run s t s' o) (h2 : Run s' t' s2 o') : Run s (t ++ t') s2 (o ++ o') := by
  refine ⟨?_, fun i acc cs => ?_⟩
  · have e1 := h1.1
    have e2 := h2.1
    unfold putS at *
    rw [List.foldl_append, e1, e2]
  · rw [List.append_assoc, h1.2, h2.2, List.append_assoc, List.length_append, Nat.add_assoc]
/-- a sample may come -/
def Rdy (s : S) : Prop := s.last = 0 ∧ s.d = false ∧ s.n = 0
theorem rdy_sample {s : S} {z : Int} (h : (sample s z).1.last = 0) : Rdy (sample s z).1 := by
  unfold sample at *
  split
  · exact ⟨rfl, rfl, rfl⟩
  · rename_i h1
    rw [if_neg h1] at h
    split
    · exact ⟨rfl, rfl, rfl⟩
    · rename_i h2
      rw [if_neg h2] at h
      exact ⟨h, rfl, rfl⟩
theorem put_blank {s : S} {c : Int} (hr : Rdy s) (hc : Tk.blank c = true) : put s c = (s, []) := by
  unfold put
  rw [if_neg (by simp [hr.1]), if_pos hc, if_neg (by simp [hr.2.1])]
theorem run_blank {s : S} {c : Int} (hr : Rdy s) (hc : Tk.blank c = true) : Run s [c] s [] := Run.one (put_blank hr hc) hr.1
theorem run_blanks {s : S} (hr : Rdy s) : ∀ es : List Int, (∀ e ∈ es, Tk.blank e = true) → Run s es s []
  | [], _ => Run.none s
  | e :: es, h => by
    have h1 := (run_blank hr (h e (List.mem_cons_self ..))).app (run_blanks hr es fun x hx => h x (List.mem_cons_of_mem _ hx))
    simpa using h1
theorem digit_not {c : Int} (h : 48 ≤ c ∧ c ≤ 57) : Tk.blank c = false := by unfold Tk.blank; simp; omega
theorem run_digits {v : Int} : ∀ (xs : List Int) (s : S), s.last = 0 → ¬ s.h.kd = 1 → xs ≠ [] → Nu.parseF s.h.m s.n xs = (v, 0) → Run s xs (digit s v) []
  | [], s, _, _, h, _ => absurd rfl h
  | c :: cs, s, h0, hk, _, hp => by
    unfold Nu.parseF at hp
    by_cases he : (Nu.stepV s.n c s.h.m).2 = 0
    · rw [if_pos he] at hp
      have hd := Tk.step_digit he
      have hq : put s c = (digit s (Nu.stepV s.n c s.h.m).1, []) := by
        unfold put
        rw [if_neg (by simp [h0]), if_neg (by rw [digit_not hd]; simp), if_neg hk, if_pos he]
      have h1 := Run.one hq rfl
      cases cs with
      | nil =>
        unfold Nu.parseF at hp
        have : (Nu.stepV s.n c s.h.m).1 = v := by injection hp
        rw [this] at h1
        exact h1
      | cons c2 cs =>
        have h2 := run_digits (c2 :: cs) (digit s (Nu.stepV s.n c s.h.m).1) rfl hk (by simp) hp
        exact h1.app h2
    · rw [if_neg he] at hp
      injection hp with e1 e2
      exact absurd e2 he
/-- a sample's bytes, with the blank that ends it -/
def It (kd m z : Int) (bs : List Int) : Prop := 0 ≤ z ∧ z ≤ m ∧ ((kd = 1 ∧ z ≤ 1 ∧ bs = [48 + z]) ∨ (¬ kd = 1 ∧ ∃ c, Tk.blank c = true ∧ bs = Nu.decV z ++ [c]))
/-- what a sample does, told -/
theorem it_last {s : S} {z : Int} {bs : List Int} (hr : Rdy s) (hi : It s.h.kd s.h.m z bs) :
    ∃ s1 pre c, bs = pre ++ [c] ∧ Run s pre s1 [] ∧ put s1 c = sample s z := by
  obtain ⟨z0, z1, ⟨hk, hz, rfl⟩ | ⟨hk, c, hc, rfl⟩⟩ := hi
  · refine ⟨s, [], 48 + z, rfl, Run.none s, ?_⟩
    unfold put
    rw [if_neg (by simp [hr.1]), if_neg (by rw [digit_not (by omega)]; simp), if_pos hk, if_pos (by omega), show 48 + z - 48 = z by omega]
  · have hp := Nu.parse_dig s.h.m (by omega) z z0
    rw [if_pos z1, ← Nu.decV_up z0] at hp
    have hp : Nu.parseF s.h.m s.n (Nu.decV z) = (z, 0) := by rw [hr.2.2]; exact hp
    refine ⟨digit s z, Nu.decV z, c, rfl, run_digits _ s hr.1 hk (Nu.decV_ne z0) hp, ?_⟩
    show put (digit s z) c = sample s z
    unfold put
    rw [if_neg (by simp [digit]), if_pos hc, if_pos (show (digit s z).d = true from rfl)]
    rfl
theorem it_more {s : S} {z : Int} {bs : List Int} (hr : Rdy s) (hi : It s.h.kd s.h.m z bs) (h : (sample s z).1.last = 0) : Run s bs (sample s z).1 (sample s z).2 := by
  obtain ⟨s1, pre, c, rfl, h1, h2⟩ := it_last hr hi
  have := h1.app (Run.one h2 h)
  simpa using this
theorem it_over {s : S} {z : Int} {bs : List Int} (hr : Rdy s) (hi : It s.h.kd s.h.m z bs) (h : (sample s z).1.last = 1) (i : Nat) (acc cs : List Int) : readF s i acc (bs ++ cs) = (acc ++ (sample s z).2, ((i + bs.length : Nat) : Int), 0) := by
  obtain ⟨s1, pre, c, rfl, h1, h2⟩ := it_last hr hi
  rw [List.append_assoc, h1.2, List.singleton_append, readF_over h2 h]
  simp; omega
/-- samples, each with at most b blanks more behind -/
def Sq (kd m : Int) (b : Nat) : List Int → List Int → Prop
  | [], t => t = []
  | z :: zs, t => ∃ bs es t', t = bs ++ es ++ t' ∧ It kd m z bs ∧ (∀ e ∈ es, Tk.blank e = true) ∧ es.length ≤ b ∧ Sq kd m b zs t'
theorem Sq.app {kd m : Int} {b : Nat} : ∀ {zs ys t u : List Int}, Sq kd m b zs t → Sq kd m b ys u → Sq kd m b (zs ++ ys) (t ++ u)
  | [], ys, t, u, h, k => by unfold Sq at h; subst h; simpa using k
  | z :: zs, ys, t, u, h, k => by
    obtain ⟨bs, es, t', rfl, h1, h2, h3, h4⟩ := h
    exact ⟨bs, es, t' ++ u, by simp, h1, h2, h3, h4.app k⟩
def tell (s : S) : List Int → S × List Int
  | [] => (s, [])
  | z :: zs => ((tell (sample s z).1 zs).1, (sample s z).2 ++ (tell (sample s z).1 zs).2)
/-- it goes on behind each -/
def Live (s : S) : List Int → Prop
  | [] => True
  | z :: zs => (sample s z).1.last = 0 ∧ Live (sample s z).1 zs
theorem tell_app (s : S) : ∀ (zs ys : List Int), tell s (zs ++ ys) = ((tell (tell s zs).1 ys).1, (tell s zs).2 ++ (tell (tell s zs).1 ys).2)
  | [], ys => by simp [tell]
  | z :: zs, ys => by
    show ((tell (sample s z).1 (zs ++ ys)).1, (sample s z).2 ++ (tell (sample s z).1 (zs ++ ys)).2) = ((tell (tell (sample s z).1 zs).1 ys).1, (sample s z).2 ++ (tell (sample s z).1 zs).2 ++ (tell (tell (sample s z).1 zs).1 ys).2)
    rw [tell_app (sample s z).1 zs ys, List.append_assoc]
theorem live_app (s : S) : ∀ (zs ys : List Int), Live s zs → Live (tell s zs).1 ys → Live s (zs ++ ys)
  | [], ys, _, k => k
  | z :: zs, ys, h, k => ⟨h.1, live_app (sample s z).1 zs ys h.2 k⟩
theorem sq_run {b : Nat} : ∀ (zs t : List Int) (s : S), Rdy s → Sq s.h.kd s.h.m b zs t → Live s zs → Run s t (tell s zs).1 (tell s zs).2 ∧ Rdy (tell s zs).1 ∧ (tell s zs).1.h = s.h
  | [], t, s, hr, hq, _ => by unfold Sq at hq; subst hq; exact ⟨Run.none s, hr, rfl⟩
  | z :: zs, t, s, hr, hq, hl => by
    obtain ⟨bs, es, t', rfl, h1, h2, h3, h4⟩ := hq
    have hr2 := rdy_sample hl.1
    have hh := sample_h s z
    have ih := sq_run zs t' (sample s z).1 hr2 (by rw [hh]; exact h4) hl.2
    have := ((it_more hr h1 hl.1).app (run_blanks hr2 es h2)).app ih.1
    refine ⟨?_, ih.2.1, ih.2.2.trans hh⟩
    simpa [tell] using this
theorem sq_over {b : Nat} {zs t : List Int} {z : Int} {s : S} (hr : Rdy s) (hq : Sq s.h.kd s.h.m b (zs ++ [z]) t) (hl : Live s zs) (h1 : (sample (tell s zs).1 z).1.last = 1) (i : Nat) (acc cs : List Int) :
    ∃ n : Nat, readF s i acc (t ++ cs) = (acc ++ (tell s (zs ++ [z])).2, (n : Int), 0) ∧ n ≤ i + t.length ∧ i + t.length ≤ n + b := by
  obtain ⟨t1, t2, rfl, q1, q2⟩ : ∃ t1 t2, t = t1 ++ t2 ∧ Sq s.h.kd s.h.m b zs t1 ∧ Sq s.h.kd s.h.m b [z] t2 := by
    clear hl h1 hr
    generalize s.h.kd = kd at hq
    generalize s.h.m = m at hq
    induction zs generalizing t with
    | nil => exact ⟨[], t, rfl, rfl, hq⟩
    | cons y zs ih =>
      obtain ⟨bs, es, t', rfl, k1, k2, k3, k4⟩ := hq
      obtain ⟨t1, t2, rfl, q1, q2⟩ := ih k4
      exact ⟨bs ++ es ++ t1, t2, by simp, ⟨bs, es, t1, rfl, k1, k2, k3, q1⟩, q2⟩
  obtain ⟨r1, r2, r3⟩ := sq_run zs t1 s hr q1 hl
  obtain ⟨bs, es, t', rfl, k1, k2, k3, k4⟩ := q2
  unfold Sq at k4
  subst k4
  rw [← r3] at k1
  refine ⟨i + t1.length + bs.length, ?_, by simp; omega, by simp; omega⟩
  rw [show t1 ++ (bs ++ es ++ []) ++ cs = t1 ++ (bs ++ (es ++ cs)) by simp, r1.2, it_over r2 k1 h1, tell_app]
  simp [tell]
end Pl
end Go.Proofs.Ytldhhhmihfcalaa

/- Plain facts on rasters of digits: what is written is read as it was, with blanks between, and is too short where it is cut off. No condition. -/
namespace Go.Proofs.Ytldhhhmihfcalaa
open Go.RowKit
set_option linter.unusedVariables false
namespace Pl
theorem chan13 {G : Hd.H} (hm : May G) : (G.kd = 3 ∧ Hj.chan G = 3) ∨ (G.kd ≠ 3 ∧ Hj.chan G = 1) := by
  have := hm.m
  unfold Hj.chan
  by_cases h : G.kd = 3
  · exact .inl ⟨h, if_pos (.inl h)⟩
  · exact .inr ⟨h, if_neg (by omega)⟩
/-- one pixel more -/
theorem pix_tell {s : S} {p : Int} (hm : May s.h) (hr : Rdy s) (ho : s.one = []) (hp : Pq.GoodP p (Hj.chan s.h) s.h.m) :
    ∃ ys y, Pq.Px.smp p = ys ++ [y] ∧ Live s ys ∧ (tell s ys).2 = [] ∧
      sample (tell s ys).1 y = if (s.row.length : Int) + 1 < s.h.w then (⟨s.h, 0, false, [], s.row ++ [p], s.rows, 0, 0⟩, []) else (⟨s.h, 0, false, [], [], s.rows + 1, if s.rows + 1 = s.h.h then 1 else 0, 0⟩, s.row ++ [p]) := by
  have hmm := hm.m
  rcases hp with ⟨hc, x, y, z, h3, hx, hy, hz⟩ | ⟨hc, x, h1, hx⟩
  · obtain ⟨e0, a1, a2, a3, a4, a5, a6⟩ := id h3
    refine ⟨[x, y], z, Pq.Px.smp3 h3, ?_, ?_, ?_⟩
    · refine ⟨?_, ?_, trivial⟩
      · unfold sample; rw [if_pos (by rw [ho, hc]; decide)]; rfl
      · have e1 : sample s x = (more s x, []) := by unfold sample; rw [if_pos (by rw [ho, hc]; decide)]
        rw [e1]
        unfold sample; rw [if_pos (by show (((s.one ++ [x]).length : Nat) : Int) + 1 < Hj.chan s.h; rw [ho, hc]; simp)]; rfl
    · have e1 : sample s x = (more s x, []) := by unfold sample; rw [if_pos (by rw [ho, hc]; decide)]
      have e2 : sample (more s x) y = (more (more s x) y, []) := by unfold sample; rw [if_pos (by show (((s.one ++ [x]).length : Nat) : Int) + 1 < Hj.chan s.h; rw [ho, hc]; simp)]
      simp [tell, e1, e2]
    · have e1 : sample s x = (more s x, []) := by unfold sample; rw [if_pos (by rw [ho, hc]; decide)]
      have e2 : sample (more s x) y = (more (more s x) y, []) := by unfold sample; rw [if_pos (by show (((s.one ++ [x]).length : Nat) : Int) + 1 < Hj.chan s.h; rw [ho, hc]; simp)]
      have e3 : (tell s [x, y]).1 = more (more s x) y := by simp [tell, e1, e2]
      have e4 : pix (more (more s x) y) z = p := by
        show (Pq.Px.packV (s.one ++ [x] ++ [y] ++ [z])).1 = p
        rw [ho]
        show (Pq.Px.packV [x, y, z]).1 = p
        rw [Pq.Px.packV3 a1 a2 a3 a4 a5 a6, e0]
      rw [e3]
      unfold sample
      rw [if_neg (by show ¬ (((s.one ++ [x] ++ [y]).length : Nat) : Int) + 1 < Hj.chan s.h; rw [ho, hc]; simp)]
      show (if (s.row.length : Int) + 1 < s.h.w then _ else _) = _
      split
      · unfold pixel; rw [e4]; rfl
      · unfold line; rw [e4]; rfl
  · obtain ⟨e0, a1, a2⟩ := id h1
    refine ⟨[], x, Pq.Px.smp1 h1, trivial, rfl, ?_⟩
    have e4 : pix s x = p := by
      unfold pix
      rw [ho]
      show (Pq.Px.packV [x]).1 = p
      rw [Pq.Px.packV1 a1 a2, e0]
    show sample s x = _
    unfold sample
    rw [if_neg (by rw [ho, hc]; decide)]
    split
    · unfold pixel; rw [e4]
    · unfold line; rw [e4]
theorem kd1_m {G : Hd.H} (hm : May G) (h : G.kd = 1) : G.m = 1 := by
  have h1 := hm.1
  unfold Hd.May at h1
  obtain ⟨-, -, -, -, h9⟩ := h1
  exact h9 (by unfold Hd.bits; simp [h])
/-- a pixel's text -/
theorem sq_pix {G : Hd.H} {p : Int} {i : Nat} (hm : May G) (hp : Pq.GoodP p (Hj.chan G) G.m) : Sq G.kd G.m 1 (Pq.Px.smp p) (wTk (Pq.Px.smp p) (Pq.Px.smp p).length ++ if wLn G i = true then [10] else []) := by
  have hmm := hm.m
  have b10 : Tk.blank 10 = true := by decide
  have b32 : Tk.blank 32 = true := by decide
  have hb : ∀ x : List Int, x = [10] ∨ x = [] → (∀ e ∈ x, Tk.blank e = true) ∧ x.length ≤ 1 := by
    rintro x (rfl | rfl)
    · exact ⟨fun e he => by rw [List.mem_singleton.1 he]; exact b10, Nat.le_refl _⟩
    · exact ⟨fun e he => (by cases he), Nat.zero_le _⟩
  have hk := chan13 hm
  rcases hp with ⟨hc, x, y, z, h3, hx, hy, hz⟩ | ⟨hc, x, h1, hx⟩
  · obtain ⟨e0, a1, a2, a3, a4, a5, a6⟩ := id h3
    have hk3 : G.kd = 3 := by omega
    have hw : wLn G i = true := by simp [wLn, hk3]
    rw [Pq.Px.smp3 h3, hw, if_pos rfl]
    have hn : ¬ G.kd = 1 := by omega
    refine ⟨Nu.decV x ++ [32], [], Nu.decV y ++ [32] ++ (Nu.decV z ++ [10]), ?_, ⟨a1, hx, .inr ⟨hn, 32, b32, rfl⟩⟩, (fun e he => by cases he), Nat.zero_le _, ?_⟩
    · simp [wTk]
    · refine ⟨Nu.decV y ++ [32], [], Nu.decV z ++ [10], by simp, ⟨a3, hy, .inr ⟨hn, 32, b32, rfl⟩⟩, (fun e he => by cases he), Nat.zero_le _, ?_⟩
      exact ⟨Nu.decV z ++ [10], [], [], by simp, ⟨a5, hz, .inr ⟨hn, 10, b10, rfl⟩⟩, (fun e he => by cases he), Nat.zero_le _, rfl⟩
  · obtain ⟨e0, a1, a2⟩ := id h1
    rw [Pq.Px.smp1 h1]
    have hT : wTk [x] ([x] : List Int).length = Nu.decV x := by simp [wTk]
    rw [hT]
    by_cases h : G.kd = 1
    · have hm1 := kd1_m hm h
      refine ⟨[48 + x], if wLn G i = true then [10] else [], [], ?_, ⟨a1, hx, .inl ⟨h, by omega, rfl⟩⟩, (hb _ ?_).1, (hb _ ?_).2, rfl⟩
      · rw [Nu.decV_pos a1 (by omega), List.append_nil]
      · split
        · exact .inl rfl
        · exact .inr rfl
      · split
        · exact .inl rfl
        · exact .inr rfl
    · have hw : wLn G i = true := by
        have : 1 < G.kd := by omega
        simp [wLn, this]
      rw [hw, if_pos rfl]
      exact ⟨Nu.decV x ++ [10], [], [], by simp, ⟨a1, hx, .inr ⟨h, 10, b10, rfl⟩⟩, (fun e he => by cases he), Nat.zero_le _, rfl⟩
theorem smps_succ (l : List Int) (i : Nat) (h : i < l.length) : (l.take (i + 1)).flatMap Pq.Px.smp = (l.take i).flatMap Pq.Px.smp ++ Pq.Px.smp (l.getD i 0) := by
  rw [take_getD l i h, List.flatMap_append]
  simp
theorem sq_all {G : Hd.H} {l : List Int} (hm : May G) (hl : Fits G l) : ∀ i, i ≤ l.length → Sq G.kd G.m 1 ((l.take i).flatMap Pq.Px.smp) (wAll G l i)
  | 0, _ => by simp [wAll, Sq]
  | i + 1, hi => by
    rw [smps_succ l i (by omega), wAll_succ, List.append_assoc]
    exact (sq_all hm hl i (by omega)).app (sq_pix hm (hl _ (getD_mem (by omega))))
/-- behind i pixels -/
def pst (G : Hd.H) (l : List Int) (W i : Nat) : S := ⟨G, 0, false, [], (l.drop (i / W * W)).take (i % W), ((i / W : Nat) : Int), 0, 0⟩
theorem dm_lt {i W : Nat} (h : i % W + 1 < W) : (i + 1) / W = i / W ∧ (i + 1) % W = i % W + 1 := by
  have h0 := Nat.div_add_mod i W
  have hW : 0 < W := by omega
  have e : i + 1 = W * (i / W) + (i % W + 1) := by omega
  constructor
  · rw [e, Nat.mul_add_div hW, Nat.div_eq_of_lt h, Nat.add_zero]
  · rw [e, Nat.mul_add_mod, Nat.mod_eq_of_lt h]
theorem dm_eq {i W : Nat} (h : i % W + 1 = W) : (i + 1) / W = i / W + 1 ∧ (i + 1) % W = 0 := by
  have h0 := Nat.div_add_mod i W
  have hW : 0 < W := by omega
  have e : i + 1 = W * (i / W + 1) := by rw [Nat.mul_add, Nat.mul_one]; omega
  constructor
  · rw [e, Nat.mul_div_cancel_left _ hW]
  · rw [e, Nat.mul_mod_right]
theorem take_part {l : List Int} {i a r : Nat} (hi : i < l.length) (h : a + r = i) : (l.drop a).take r ++ [l.getD i 0] = (l.drop a).take (r + 1) := by
  rw [List.take_add_one, List.getElem?_drop, h, List.getD_eq_getElem?_getD, List.getElem?_eq_getElem hi]
  rfl
theorem take_join (l : List Int) (a n : Nat) : l.take a ++ (l.drop a).take n = l.take (a + n) := by
  rw [List.take_add]
section
variable {G : Hd.H} {l : List Int} {W H : Nat} (hm : May G) (hl : Fits G l) (hW : G.w = (W : Int)) (hH : G.h = (H : Int)) (hN : l.length = W * H)
include hm hl hW hH hN
theorem tell_pix {i : Nat} (hi : i < l.length) : ∃ ys y, Pq.Px.smp (l.getD i 0) = ys ++ [y] ∧ Live (pst G l W i) ys ∧ (tell (pst G l W i) ys).2 = [] ∧
    (i + 1 < l.length → (sample (tell (pst G l W i) ys).1 y).1 = pst G l W (i + 1)) ∧ (i + 1 = l.length → (sample (tell (pst G l W i) ys).1 y).1.last = 1) ∧ l.take (i / W * W) ++ (sample (tell (pst G l W i) ys).1 y).2 = l.take ((i + 1) / W * W) := by
  have hmm := hm.m
  have h0 := Nat.div_add_mod i W
  have hW0 : 0 < W := by omega
  have hr : i % W < W := Nat.mod_lt _ hW0
  have hc : i / W * W + i % W = i := by rw [Nat.mul_comm]; exact h0
  have hrow : (pst G l W i).row.length = i % W := by show ((l.drop (i / W * W)).take (i % W)).length = _; rw [List.length_take, List.length_drop]; omega
  obtain ⟨ys, y, h1, h2, h3, h4⟩ := pix_tell (s := pst G l W i) hm ⟨rfl, rfl, rfl⟩ rfl (hl _ (getD_mem hi))
  refine ⟨ys, y, h1, h2, h3, ?_⟩
  rw [hrow, show (pst G l W i).h.w = (W : Int) from hW, show (pst G l W i).h.h = (H : Int) from hH] at h4
  have hp := take_part hi hc
  by_cases hx : i % W + 1 < W
  · rw [if_pos (by omega)] at h4
    rw [h4]
    obtain ⟨d1, d2⟩ := dm_lt hx
    refine ⟨fun _ => ?_, fun he => ?_, by simp [d1]⟩
    · unfold pst
      rw [d1, d2, ← hp]
    · exfalso
      have := Nat.mul_mod_right W H
      rw [← hN, ← he, d2] at this
      omega
  · rw [if_neg (by omega)] at h4
    rw [h4]
    have hx1 : i % W + 1 = W := by omega
    obtain ⟨d1, d2⟩ := dm_eq hx1
    have hq : W * (i / W + 1) = i + 1 := by rw [Nat.mul_add, Nat.mul_one]; omega
    refine ⟨fun hlt => ?_, fun he => ?_, ?_⟩
    · have : i / W + 1 < H := by
        apply Nat.lt_of_mul_lt_mul_left (a := W)
        rw [hq, ← hN]; exact hlt
      unfold pst
      simp only [d1, d2]
      rw [if_neg (by omega)]
      simp
    · have : i / W + 1 = H := by
        apply Nat.eq_of_mul_eq_mul_left hW0
        rw [hq, ← hN]; exact he
      show (if (pst G l W i).rows + 1 = (H : Int) then (1 : Int) else 0) = 1
      rw [if_pos (by show ((i / W : Nat) : Int) + 1 = (H : Int); omega)]
    · show l.take (i / W * W) ++ ((l.drop (i / W * W)).take (i % W) ++ [l.getD i 0]) = _
      rw [hp, hx1, take_join, d1, Nat.add_mul, Nat.one_mul]
theorem tell_all : ∀ i, i < l.length → tell (new G) ((l.take i).flatMap Pq.Px.smp) = (pst G l W i, l.take (i / W * W)) ∧ Live (new G) ((l.take i).flatMap Pq.Px.smp)
  | 0, _ => by
    refine ⟨?_, trivial⟩
    simp [tell, pst, new]
  | i + 1, hi => by
    obtain ⟨h1, h2⟩ := tell_all i (by omega)
    obtain ⟨ys, y, k1, k2, k3, k4, k5, k6⟩ := tell_pix hm hl hW hH hN (i := i) (by omega)
    rw [smps_succ l i (by omega), k1]
    have k4 := k4 hi
    constructor
    · rw [tell_app, h1]
      simp only []
      rw [tell_app, k3]
      simp only [tell, List.append_nil, List.nil_append]
      rw [k4, k6]
    · refine live_app _ _ _ h2 ?_
      rw [h1]
      refine live_app _ _ _ k2 ⟨?_, trivial⟩
      rw [k4]; rfl
theorem tell_end : ∃ zs z, l.flatMap Pq.Px.smp = zs ++ [z] ∧ Live (new G) zs ∧ (sample (tell (new G) zs).1 z).1.last = 1 ∧ (tell (new G) (zs ++ [z])).2 = l := by
  have hmm := hm.m
  have hpos : 0 < l.length := by rw [hN]; exact Nat.mul_pos (by omega) (by omega)
  obtain ⟨i, hi⟩ : ∃ i, l.length = i + 1 := ⟨l.length - 1, by omega⟩
  obtain ⟨h1, h2⟩ := tell_all hm hl hW hH hN i (by omega)
  obtain ⟨ys, y, k1, k2, k3, k4, k5, k6⟩ := tell_pix hm hl hW hH hN (i := i) (by omega)
  have hs := smps_succ l i (by omega)
  rw [List.take_of_length_le (show l.length ≤ i + 1 by omega), k1, ← List.append_assoc] at hs
  have he : (i + 1) / W * W = l.length := by rw [← hi, hN, Nat.mul_div_cancel_left _ (by omega), Nat.mul_comm]
  rw [he, List.take_length] at k6
  refine ⟨_, y, hs, ?_, ?_, ?_⟩
  · refine live_app _ _ _ h2 ?_
    rw [h1]; exact k2
  · rw [tell_app, h1]; exact k5 hi.symm
  · rw [tell_app, tell_app, h1]
    simp only []
    rw [k3]
    simp only [tell, List.append_nil]
    exact k6
/-- what has all samples, is read -/
theorem read_all {b : Nat} {es t : List Int} (he : ∀ e ∈ es, Tk.blank e = true) (hq : Sq G.kd G.m b (l.flatMap Pq.Px.smp) t) :
    ∃ n : Nat, readV G (es ++ t) = (l, (n : Int), 0) ∧ n ≤ es.length + t.length ∧ es.length + t.length ≤ n + b := by
  obtain ⟨zs, z, h1, h2, h3, h4⟩ := tell_end hm hl hW hH hN
  rw [h1] at hq
  have hr : Rdy (new G) := ⟨rfl, rfl, rfl⟩
  obtain ⟨n, k1, k2, k3⟩ := sq_over (s := new G) hr hq h2 h3 (0 + es.length) ([] ++ []) []
  refine ⟨n, ?_, by omega, by omega⟩
  unfold readV
  rw [if_pos hm, (run_blanks hr es he).2]
  simp only [List.append_nil, List.nil_append] at k1 ⊢
  rw [k1, h4]
/-- what lacks samples, is too short -/
theorem read_cut {b k : Nat} {t : List Int} (hk : k < l.length) (hq : Sq G.kd G.m b ((l.take k).flatMap Pq.Px.smp) t) : readV G t = ([], 0, 6) ∧ putS (new G) t = pst G l W k := by
  obtain ⟨h1, h2⟩ := tell_all hm hl hW hH hN k hk
  obtain ⟨r1, r2, r3⟩ := sq_run _ t (new G) ⟨rfl, rfl, rfl⟩ hq h2
  rw [h1] at r1
  refine ⟨?_, r1.1⟩
  unfold readV
  rw [if_pos hm]
  have := r1.2 0 [] []
  rw [List.append_nil] at this
  rw [this]
  have hb : put (pst G l W k) 32 = (pst G l W k, []) := put_blank ⟨rfl, rfl, rfl⟩ (by decide)
  have hf : fin (pst G l W k) = (wrong (pst G l W k) 6, []) := by unfold fin; rw [hb]; rfl
  rw [readF_nil hf]
  rfl
end
end Pl
end Go.Proofs.Ytldhhhmihfcalaa

/- All pixels of a raster of digits, over any memory. Condition: the text is short, the head's numbers fit. -/
namespace Go.Proofs.Ytldhhhmihfcalaa
open Go.RowKit
set_option linter.unusedVariables false

set_option maxRecDepth 100000 in
set_option maxHeartbeats 4000000 in
theorem plRead_any (s : ByteArray) (hsz : s.size ≤ 100000) (h : Hd.H) (hf : Hj.Fit h) (w : World) :
    Calls Try.prog 38 #[.string s, agH h] w (RdR (Pl.readV h (bytesOf s)) w) := by
  by_cases hm : Pl.May h
  · have HN := Lib.hid (plNew_yes h hf hm)
    obtain ⟨t0, ht0⟩ : ∃ t, Pl.readV h (bytesOf s) = t := ⟨_, rfl⟩
    have HV0 : Hid (t0 = Pl.readF (Pl.new h) 0 [] (bytesOf s)) := by show _ = _; rw [← ht0]; exact if_pos hm
    rw [ht0]
    obtain ⟨p0, pi, pz0, pz1, pz2⟩ : ∃ i, Try.prog.info? 88 = some i ∧ i.zero = some (.int .u64 0) ∧ i.size = 1 ∧ i.bytes = 8 := (by have h := Try.info_px8; cases hh : Try.prog.info? 88 with | none => rw [hh] at h; cases h | some i => rw [hh] at h; simp at h; exact ⟨i, rfl, h.1, h.2.1, h.2.2⟩)
    clear ht0 hf hm
    unfold agH at HN ⊢
    go_enter Try.func38, Try.ntmps38
    go_wp2_with fail
    refine (HN.out _).mono ?_
    rintro e w1 ⟨b, rfl, hwb, hX, hb1⟩
    have HX1 := Lib.hid hX
    have HB1 := Lib.hid (((Below.refl _ w).alloc (Nat.le_refl _) _).trans (hb1.mono (by simp)))
    have HWB : Hid (w.heap.size ≤ b) := Lib.hid (by simp at hwb; omega)
    clear hX hb1 hwb
    go_wp2_with fail
    go_loopw [9, 25] (fun u9 u25 wr => ∃ (i : Nat) (sv rv : Value) (st : Pl.S) (acc : List Int) (v : Value), i ≤ s.size ∧ u25 = .int .i64 i ∧ v = u9 ∧ PlX wr b sv rv st ∧ st.last = 0 ∧ wr.ownsRow w.heap.size 88 1 v acc.length (pixs acc) ∧ Ap v b sv rv ∧ acc.length + st.row.length ≤ i ∧ Below w.heap.size w wr ∧ t0 = Pl.readF st i acc ((bytesOf s).drop i)) (fun _ u25 _ => s.size - (intOf u25).toNat)
    case atStart => exact ⟨0, _, _, Pl.new h, [], _, Nat.zero_le _, rfl, rfl, HX1.out, rfl, World.ownsRow_nil _ _ _ _, ap_nil _ _ _, Nat.le_refl _, HB1.out, HV0.out⟩
    case round =>
      obtain ⟨i, sv, rv, st, acc, v, hi1, rfl, rfl, hX, h0, hrow, hap, hgr, hB, hV⟩ := hrel
      have HX := Lib.hid hX
      have HROW := Lib.hid hrow
      have HAP := Lib.hid hap
      have HB := Lib.hid hB
      have H0 := Lib.hid h0
      have HG := Lib.hid hX.g
      obtain ⟨n, hn⟩ : ∃ n, acc.length = n := ⟨_, rfl⟩
      have HNL := Lib.hid hn
      rw [hn] at hgr
      have HROW' : Hid (wr.ownsRow w.heap.size 88 1 v n (pixs acc)) := by show World.ownsRow _ _ _ _ _ _ _; have h := hrow; rw [hn] at h; exact h
      have hn9 : n ≤ 100000 := by omega
      have HGR := Lib.hid hgr
      clear hX hrow hap hB h0 hn
      have HPZ : Hid (∀ (q : Pl.S × List Int) (w2 : World) sv' rv', PlX w2 b sv' rv' q.1 → Sep (PlZ b sv rv) wr w2 → PlNew wr sv sv' → PlNew wr rv rv' → w2.ownsRow w.heap.size 88 1 v n (pixs acc) ∧ Ap v b sv' rv' ∧ Below w.heap.size w w2) := Lib.hid fun q w2 sv' rv' hX2 hS hN1 hN2 =>
        ⟨row_sep HROW'.out hS HAP.out, ap_put HROW'.out HAP.out hN1 hN2, HB.out.trans (hS.below HB.out.size (fun k hk hz => by have := (HX.out.z k hz).1; have := HWB.out; omega))⟩
      by_cases hlt : i < s.size
      · rw [bytesOf_drop s i hlt] at hV
        have c0 : (0 : Int) ≤ (s[i].toNat : Int) := by omega
        have c1 : (s[i].toNat : Int) ≤ 255 := by have := s[i].toNat_lt; omega
        have HP := plPut_any (s[i].toNat : Int) c0 c1 wr b sv rv HX.out
        have hg' := Pl.put_grow st (s[i].toNat : Int)
        have hG' := (Pl.good_put HG.out (s[i].toNat : Int)).last
        obtain ⟨q, hq⟩ : ∃ q, Pl.put st (s[i].toNat : Int) = q := ⟨_, rfl⟩
        rw [hq] at HP hg' hG'
        obtain ⟨m, hm⟩ : ∃ m, q.2.length = m := ⟨_, rfl⟩
        have hml : m ≤ 100001 := by omega
        have HQG := Lib.hid hg'
        have HML := Lib.hid hm
        by_cases h1 : q.1.last = 1
        · have HV2 : Hid (t0 = (acc ++ q.2, (i : Int) + 1, 0)) := by show _ = _; rw [hV, Pl.readF_over hq h1]
          unfold PlPutR at HP
          rw [h1, hm] at HP
          have HPC := Lib.hid HP
          have hii : (i : Int) + 1 ≤ 9223372036854775807 := by omega
          clear HP hg' hG' hq hm hV h1 hgr
          go_wp2_with (first | (at_builtin; refine wpList_app rfl _ _ 22 rfl w.heap.size 88 p0 .u64 8 Try.underlying22 pi pz0 pz1 pz2 v n (pixs acc) rfl HO2.out a m c q.2 rfl HS2.out (by unfold maxLen; omega) (by omega) HB2.out.size ?_; intro v3 w3 hown hgrow hat; have HO3 := Lib.hid hown; have HB3 := Lib.hid (HB2.out.grown hgrow HB2.out.size (fun j ej => (HO2.out.lt j ej).1)); clear hown hgrow hat) | (go_at_call 45; refine HPC.out.mono ?_; rintro e w2 ⟨a, c, sv', rv', rfl, hX2, hS2, _, hF2, hN1, hN2⟩; obtain ⟨z1, z2, z3⟩ := HPZ.out q w2 sv' rv' hX2 hF2 hN1 hN2; have HO2 := Lib.hid z1; have HB2 := Lib.hid z3; have HS2 := Lib.hid hS2; clear hX2 hS2 hF2 hN1 hN2 z1 z2 z3))
          go_returns
          exact rdr_row HV2.out rfl (by have h := HO3.out; unfold pixs; rw [List.map_append]; exact h) (by rw [List.length_append, HNL.out, HML.out]) HB3.out
        by_cases h2 : q.1.last = 2
        · have HV2 : Hid (t0 = ([], 0, q.1.e)) := by show _ = _; rw [hV, Pl.readF_wrong hq h2]
          unfold PlPutR at HP
          rw [h2, hm] at HP
          have HPC := Lib.hid HP
          clear HP hg' hG' hq hm hV h1 h2 hgr
          go_wp2_with (first | (at_builtin; refine wpList_app rfl _ _ 22 rfl w.heap.size 88 p0 .u64 8 Try.underlying22 pi pz0 pz1 pz2 v n (pixs acc) rfl HO2.out a m c q.2 rfl HS2.out (by unfold maxLen; omega) (by omega) HB2.out.size ?_; intro v3 w3 hown hgrow hat; have HB3 := Lib.hid (HB2.out.grown hgrow HB2.out.size (fun j ej => (HO2.out.lt j ej).1)); have HX3 := Lib.hid (HX2.out.kept HA2.out hgrow); clear hown hgrow hat) | (go_at_call 45; refine HPC.out.mono ?_; rintro e w2 ⟨a, c, sv', rv', rfl, hX2, hS2, _, hF2, hN1, hN2⟩; obtain ⟨z1, z2, z3⟩ := HPZ.out q w2 sv' rv' hX2 hF2 hN1 hN2; have HO2 := Lib.hid z1; have HA2 := Lib.hid z2; have HB2 := Lib.hid z3; have HS2 := Lib.hid hS2; have HX2 := Lib.hid hX2; clear hX2 hS2 hF2 hN1 hN2 z1 z2 z3) | (go_at_call 47; refine (plError_x HX3.out).mono ?_; rintro e w9 ⟨rfl, rfl⟩))
          go_returns
          exact rdr_nil HV2.out HB3.out
        · have h3 : q.1.last = 0 := by omega
          have HV2 : Hid (t0 = Pl.readF q.1 (i + 1) (acc ++ q.2) ((bytesOf s).drop (i + 1))) := by show _ = _; rw [hV, Pl.readF_more hq h3]
          unfold PlPutR at HP
          rw [h3, hm] at HP
          have HPC := Lib.hid HP
          have H3 := Lib.hid h3
          clear HP hg' hG' hq hm hV h1 h2 h3 hgr
          go_wp2_with (first | (at_builtin; refine wpList_app rfl _ _ 22 rfl w.heap.size 88 p0 .u64 8 Try.underlying22 pi pz0 pz1 pz2 v n (pixs acc) rfl HO2.out a m c q.2 rfl HS2.out (by unfold maxLen; omega) (by omega) HB2.out.size ?_; intro v3 w3 hown hgrow hat; have HO3 := Lib.hid hown; have HB3 := Lib.hid (HB2.out.grown hgrow HB2.out.size (fun j ej => (HO2.out.lt j ej).1)); have HX3 := Lib.hid (HX2.out.kept HA2.out hgrow); have HA3 := Lib.hid (ap_app HX2.out HA2.out hat); clear hown hgrow hat) | (go_at_call 45; refine HPC.out.mono ?_; rintro e w2 ⟨a, c, sv', rv', rfl, hX2, hS2, _, hF2, hN1, hN2⟩; obtain ⟨z1, z2, z3⟩ := HPZ.out q w2 sv' rv' hX2 hF2 hN1 hN2; have HO2 := Lib.hid z1; have HA2 := Lib.hid z2; have HB2 := Lib.hid z3; have HS2 := Lib.hid hS2; have HX2 := Lib.hid hX2; clear hX2 hS2 hF2 hN1 hN2 z1 z2 z3))
          go_roundw
          case rel => exact ⟨i + 1, sv', rv', q.1, acc ++ q.2, v3, by omega, by go_num, rfl, HX3.out, H3.out, by rw [List.length_append, HNL.out, HML.out]; have h := HO3.out; unfold pixs; rw [List.map_append]; exact h, HA3.out, by rw [List.length_append, HNL.out]; have := HQG.out; have := HGR.out; omega, HB3.out, HV2.out⟩
          case measure => simp [intOf]; omega
      · have hgl := Pl.fin_grow st
        have hls := Pl.fin_last HG.out
        have HP := plEnd_any wr b sv rv HX.out
        obtain ⟨q, hq⟩ : ∃ q, Pl.fin st = q := ⟨_, rfl⟩
        rw [List.drop_eq_nil_of_le (by rw [bytesOf_length]; omega), Pl.readF_nil hq] at hV
        rw [hq] at HP hgl hls
        obtain ⟨m, hm⟩ : ∃ m, q.2.length = m := ⟨_, rfl⟩
        have hml : m ≤ 100001 := by omega
        have HML := Lib.hid hm
        have his : i = s.size := by omega
        by_cases h2 : q.1.last = 2
        · have HV2 : Hid (t0 = ([], 0, q.1.e)) := by show _ = _; rw [hV, if_pos h2]
          unfold PlPutR at HP
          rw [h2, hm] at HP
          have HPC := Lib.hid HP
          clear HP hgl hls hq hm hV h2 hgr his
          go_wp2_with (first | (go_at_call 49; refine HPC.out.mono ?_; rintro e w2 ⟨a, c, sv', rv', rfl, hX2, hS2, _, hF2, hN1, hN2⟩; obtain ⟨z1, z2, z3⟩ := HPZ.out q w2 sv' rv' hX2 hF2 hN1 hN2; have HB2 := Lib.hid z3; have HX2 := Lib.hid hX2; clear hX2 hS2 hF2 hN1 hN2 z1 z2 z3) | (go_at_call 47; refine (plError_x HX2.out).mono ?_; rintro e w9 ⟨rfl, rfl⟩))
          go_returns
          exact rdr_nil HV2.out HB2.out
        · have h3 : q.1.last = 1 := by omega
          have HV2 : Hid (t0 = (acc ++ q.2, (s.size : Int), 0)) := by show _ = _; rw [hV, if_neg h2, his]
          unfold PlPutR at HP
          rw [h3, hm] at HP
          have HPC := Lib.hid HP
          clear HP hgl hls hq hm hV h2 h3 hgr his
          go_wp2_with (first | (at_builtin; refine wpList_app rfl _ _ 22 rfl w.heap.size 88 p0 .u64 8 Try.underlying22 pi pz0 pz1 pz2 v n (pixs acc) rfl HO2.out a m c q.2 rfl HS2.out (by unfold maxLen; omega) (by omega) HB2.out.size ?_; intro v3 w3 hown hgrow hat; have HO3 := Lib.hid hown; have HB3 := Lib.hid (HB2.out.grown hgrow HB2.out.size (fun j ej => (HO2.out.lt j ej).1)); clear hown hgrow hat) | (go_at_call 49; refine HPC.out.mono ?_; rintro e w2 ⟨a, c, sv', rv', rfl, hX2, hS2, _, hF2, hN1, hN2⟩; obtain ⟨z1, z2, z3⟩ := HPZ.out q w2 sv' rv' hX2 hF2 hN1 hN2; have HO2 := Lib.hid z1; have HB2 := Lib.hid z3; have HS2 := Lib.hid hS2; clear hX2 hS2 hF2 hN1 hN2 z1 z2 z3))
          go_returns
          exact rdr_row HV2.out rfl (by have h := HO3.out; unfold pixs; rw [List.map_append]; exact h) (by rw [List.length_append, HNL.out, HML.out]) HB3.out
  · have HN := Lib.hid (plNew_no h hf hm)
    have HV : Hid (Pl.readV h (bytesOf s) = ([], 0, 1)) := Lib.hid (if_neg hm)
    clear hf hm
    unfold agH at HN ⊢
    go_enter Try.func38, Try.ntmps38
    go_wp2_with (go_at_call 42; refine (HN.out _).mono ?_; rintro e w1 ⟨rfl, hb1⟩; have HB1 := Lib.hid (((Below.refl _ w).alloc (Nat.le_refl _) _).trans (hb1.mono (by simp))))
    go_returns
    exact rdr_nil HV.out HB1.out
end Go.Proofs.Ytldhhhmihfcalaa

/- The document's reader of digits, as a value and in ten cells of a block of the call's own, over any memory; a new one; one that is wrong. No condition. -/
namespace Go.Proofs.Ytldhhhmihfcalaa
open Go.RowKit
set_option linter.unusedVariables false

/-- a reader by the document, as a value -/
def agR (h : Hd.H) (N : Int) (v1 v2 : Value) (rows last e : Int) : Value := .agg #[.int .i64 h.kd, .int .i64 h.w, .int .i64 h.h, .int .i64 h.m, .int .i64 N, v1, v2, .int .i64 rows, .int .i64 last, .int .i64 e]
/-- ten cells in a block of the call's own -/
def RbC (w : World) (b : Nat) (h : Hd.H) (N : Int) (v1 v2 : Value) (rows last e : Int) : Prop :=
  w.heap[b]? = some (.cells #[.int .i64 h.kd, .int .i64 h.w, .int .i64 h.h, .int .i64 h.m, .int .i64 N, v1, v2, .int .i64 rows, .int .i64 last, .int .i64 e] 77 (0, 0))
section
variable {w w' : World} {b : Nat} {h : Hd.H} {N : Int} {v1 v2 : Value} {rows last e : Int}
theorem RbC.lt (H : RbC w b h N v1 v2 rows last e) : b < w.heap.size := (Array.getElem?_eq_some_iff.1 H).1
theorem RbC.later (H : RbC w b h N v1 v2 rows last e) (hb : Below w.heap.size w w') : RbC w' b h N v1 v2 rows last e := (hb.block b H.lt).trans H
theorem RbC.kept {row : Option Nat} (H : RbC w b h N v1 v2 rows last e) (hg : w.grownBy w' row) (hne : some b ≠ row) : RbC w' b h N v1 v2 rows last e := (hg.block b H.lt hne).trans H
theorem RbC.alloc (H : RbC w b h N v1 v2 rows last e) (o : Obj) : RbC (w.alloc o) b h N v1 v2 rows last e := H.kept (World.grownBy_alloc w o none) (by simp)
theorem RbC.drewN (H : RbC w b h N v1 v2 rows last e) (k : Nat) : RbC (w.drewN k) b h N v1 v2 rows last e := H
theorem RbC.sep {Z : Nat → Prop} (H : RbC w b h N v1 v2 rows last e) (hs : Sep Z w w') (hz : ¬ Z b) : RbC w' b h N v1 v2 rows last e := (hs.block b H.lt hz).trans H
theorem RbC.other (H : RbC w b h N v1 v2 rows last e) {a : Addr} (ha : b ≠ a.block) (y : Value) : RbC (w.setCell a y) b h N v1 v2 rows last e := (Below.heap_setCell w a y b ha).trans H
theorem RbC.fr (H : RbC w b h N v1 v2 rows last e) (o : Nat) : w.frozen? ⟨b, o, none⟩ = false := by have h' : w.heap[b]? = _ := H; simp [World.frozen?, h']
theorem RbC.new (w : World) (h : Hd.H) (N : Int) (v1 v2 : Value) (rows last e : Int) : RbC (w.alloc (.cells #[.int .i64 h.kd, .int .i64 h.w, .int .i64 h.h, .int .i64 h.m, .int .i64 N, v1, v2, .int .i64 rows, .int .i64 last, .int .i64 e] 77)) w.heap.size h N v1 v2 rows last e := World.alloc_heap_new w _
theorem RbC.c0 (H : RbC w b h N v1 v2 rows last e) : w.cell? ⟨b, 0, none⟩ = some (.int .i64 h.kd) := by have h' : w.heap[b]? = _ := H; simp [World.cell?, h']
theorem RbC.c1 (H : RbC w b h N v1 v2 rows last e) : w.cell? ⟨b, 1, none⟩ = some (.int .i64 h.w) := by have h' : w.heap[b]? = _ := H; simp [World.cell?, h']
theorem RbC.c2 (H : RbC w b h N v1 v2 rows last e) : w.cell? ⟨b, 2, none⟩ = some (.int .i64 h.h) := by have h' : w.heap[b]? = _ := H; simp [World.cell?, h']
theorem RbC.c3 (H : RbC w b h N v1 v2 rows last e) : w.cell? ⟨b, 3, none⟩ = some (.int .i64 h.m) := by have h' : w.heap[b]? = _ := H; simp [World.cell?, h']
theorem RbC.c4 (H : RbC w b h N v1 v2 rows last e) : w.cell? ⟨b, 4, none⟩ = some (.int .i64 N) := by have h' : w.heap[b]? = _ := H; simp [World.cell?, h']
theorem RbC.c5 (H : RbC w b h N v1 v2 rows last e) : w.cell? ⟨b, 5, none⟩ = some (v1) := by have h' : w.heap[b]? = _ := H; simp [World.cell?, h']
theorem RbC.c6 (H : RbC w b h N v1 v2 rows last e) : w.cell? ⟨b, 6, none⟩ = some (v2) := by have h' : w.heap[b]? = _ := H; simp [World.cell?, h']
theorem RbC.c7 (H : RbC w b h N v1 v2 rows last e) : w.cell? ⟨b, 7, none⟩ = some (.int .i64 rows) := by have h' : w.heap[b]? = _ := H; simp [World.cell?, h']
theorem RbC.c8 (H : RbC w b h N v1 v2 rows last e) : w.cell? ⟨b, 8, none⟩ = some (.int .i64 last) := by have h' : w.heap[b]? = _ := H; simp [World.cell?, h']
theorem RbC.c9 (H : RbC w b h N v1 v2 rows last e) : w.cell? ⟨b, 9, none⟩ = some (.int .i64 e) := by have h' : w.heap[b]? = _ := H; simp [World.cell?, h']
theorem RbC.put4 (H : RbC w b h N v1 v2 rows last e) (y : Int) : RbC (w.setCell ⟨b, 4, none⟩ (.int .i64 y)) b h y v1 v2 rows last e := by
  have h' : w.heap[b]? = _ := H
  simpa [RbC] using Go.heap_setCell_same w b 4 _ _ (.int .i64 y) h'
theorem RbC.put5 (H : RbC w b h N v1 v2 rows last e) (y : Value) : RbC (w.setCell ⟨b, 5, none⟩ y) b h N y v2 rows last e := by
  have h' : w.heap[b]? = _ := H
  simpa [RbC] using Go.heap_setCell_same w b 5 _ _ y h'
theorem RbC.put6 (H : RbC w b h N v1 v2 rows last e) (y : Value) : RbC (w.setCell ⟨b, 6, none⟩ y) b h N v1 y rows last e := by
  have h' : w.heap[b]? = _ := H
  simpa [RbC] using Go.heap_setCell_same w b 6 _ _ y h'
theorem RbC.put7 (H : RbC w b h N v1 v2 rows last e) (y : Int) : RbC (w.setCell ⟨b, 7, none⟩ (.int .i64 y)) b h N v1 v2 y last e := by
  have h' : w.heap[b]? = _ := H
  simpa [RbC] using Go.heap_setCell_same w b 7 _ _ (.int .i64 y) h'
theorem RbC.put8 (H : RbC w b h N v1 v2 rows last e) (y : Int) : RbC (w.setCell ⟨b, 8, none⟩ (.int .i64 y)) b h N v1 v2 rows y e := by
  have h' : w.heap[b]? = _ := H
  simpa [RbC] using Go.heap_setCell_same w b 8 _ _ (.int .i64 y) h'
theorem RbC.put9 (H : RbC w b h N v1 v2 rows last e) (y : Int) : RbC (w.setCell ⟨b, 9, none⟩ (.int .i64 y)) b h N v1 v2 rows last y := by
  have h' : w.heap[b]? = _ := H
  simpa [RbC] using Go.heap_setCell_same w b 9 _ _ (.int .i64 y) h'
theorem RbC.putAll (H : RbC w b h N v1 v2 rows last e) (k : Hd.H) (N2 : Int) (u1 u2 : Value) (rows2 last2 e2 : Int) : RbC ((((((((((w.setCell ⟨b, 0, none⟩ (.int .i64 k.kd)).setCell ⟨b, 1, none⟩ (.int .i64 k.w)).setCell ⟨b, 2, none⟩ (.int .i64 k.h)).setCell ⟨b, 3, none⟩ (.int .i64 k.m)).setCell ⟨b, 4, none⟩ (.int .i64 N2)).setCell ⟨b, 5, none⟩ u1).setCell ⟨b, 6, none⟩ u2).setCell ⟨b, 7, none⟩ (.int .i64 rows2)).setCell ⟨b, 8, none⟩ (.int .i64 last2)).setCell ⟨b, 9, none⟩ (.int .i64 e2)) b k N2 u1 u2 rows2 last2 e2 := by
  have h0 : w.heap[b]? = _ := H
  have h1 := Go.heap_setCell_same _ b 0 _ _ (.int .i64 k.kd) h0
  have h2 := Go.heap_setCell_same _ b 1 _ _ (.int .i64 k.w) h1
  have h3 := Go.heap_setCell_same _ b 2 _ _ (.int .i64 k.h) h2
  have h4 := Go.heap_setCell_same _ b 3 _ _ (.int .i64 k.m) h3
  have h5 := Go.heap_setCell_same _ b 4 _ _ (.int .i64 N2) h4
  have h6 := Go.heap_setCell_same _ b 5 _ _ u1 h5
  have h7 := Go.heap_setCell_same _ b 6 _ _ u2 h6
  have h8 := Go.heap_setCell_same _ b 7 _ _ (.int .i64 rows2) h7
  have h9 := Go.heap_setCell_same _ b 8 _ _ (.int .i64 last2) h8
  have h10 := Go.heap_setCell_same _ b 9 _ _ (.int .i64 e2) h9
  simpa [RbC] using h10
theorem RbC.grownAll (w : World) (b : Nat) (k : Hd.H) (N2 : Int) (u1 u2 : Value) (rows2 last2 e2 : Int) : w.grownBy ((((((((((w.setCell ⟨b, 0, none⟩ (.int .i64 k.kd)).setCell ⟨b, 1, none⟩ (.int .i64 k.w)).setCell ⟨b, 2, none⟩ (.int .i64 k.h)).setCell ⟨b, 3, none⟩ (.int .i64 k.m)).setCell ⟨b, 4, none⟩ (.int .i64 N2)).setCell ⟨b, 5, none⟩ u1).setCell ⟨b, 6, none⟩ u2).setCell ⟨b, 7, none⟩ (.int .i64 rows2)).setCell ⟨b, 8, none⟩ (.int .i64 last2)).setCell ⟨b, 9, none⟩ (.int .i64 e2)) (some b) := (((((((((grown_set _ _ _ _).trans (grown_set _ _ _ _)).trans (grown_set _ _ _ _)).trans (grown_set _ _ _ _)).trans (grown_set _ _ _ _)).trans (grown_set _ _ _ _)).trans (grown_set _ _ _ _)).trans (grown_set _ _ _ _)).trans (grown_set _ _ _ _)).trans (grown_set _ _ _ _)
theorem RbC.cells (H : RbC w b h N v1 v2 rows last e) : w.cell? ⟨b, 0, none⟩ = some (.int .i64 h.kd) ∧ w.cell? ⟨b, 1, none⟩ = some (.int .i64 h.w) ∧ w.cell? ⟨b, 2, none⟩ = some (.int .i64 h.h) ∧ w.cell? ⟨b, 3, none⟩ = some (.int .i64 h.m) ∧ w.cell? ⟨b, 4, none⟩ = some (.int .i64 N) ∧ w.cell? ⟨b, 5, none⟩ = some (v1) ∧ w.cell? ⟨b, 6, none⟩ = some (v2) ∧ w.cell? ⟨b, 7, none⟩ = some (.int .i64 rows) ∧ w.cell? ⟨b, 8, none⟩ = some (.int .i64 last) ∧ w.cell? ⟨b, 9, none⟩ = some (.int .i64 e) := ⟨H.c0, H.c1, H.c2, H.c3, H.c4, H.c5, H.c6, H.c7, H.c8, H.c9⟩
theorem RbC.frs (H : RbC w b h N v1 v2 rows last e) : w.frozen? ⟨b, 0, none⟩ = false ∧ w.frozen? ⟨b, 1, none⟩ = false ∧ w.frozen? ⟨b, 2, none⟩ = false ∧ w.frozen? ⟨b, 3, none⟩ = false ∧ w.frozen? ⟨b, 4, none⟩ = false ∧ w.frozen? ⟨b, 5, none⟩ = false ∧ w.frozen? ⟨b, 6, none⟩ = false ∧ w.frozen? ⟨b, 7, none⟩ = false ∧ w.frozen? ⟨b, 8, none⟩ = false ∧ w.frozen? ⟨b, 9, none⟩ = false := ⟨H.fr 0, H.fr 1, H.fr 2, H.fr 3, H.fr 4, H.fr 5, H.fr 6, H.fr 7, H.fr 8, H.fr 9⟩
end
theorem load_rR {w : World} {b : Nat} {h : Hd.H} {N : Int} {v1 v2 : Value} {rows last e : Int} (H : RbC w b h N v1 v2 rows last e) : (loadVar 77 ⟨b, 0, none⟩).run Try.prog w = .ok (agR h N v1 v2 rows last e) w := by
  have h' : w.heap[b]? = _ := H
  simp [go_sem, H.c0, H.c1, H.c2, H.c3, H.c4, H.c5, H.c6, H.c7, H.c8, H.c9, agR]
theorem ret_cell_tmp {P : Program} {fn : Func} {p u : Tmp} {ty : TypeId} (h : fn.results = #[.cell p ty, .tmp u]) (tmps : Array Value) (w : World) (b : Nat) (val : Value) (hp : tmps.getD p undef = .pointer (some ⟨b, 0, none⟩)) (hl : (loadVar ty ⟨b, 0, none⟩).run P w = .ok val w) :
    (results fn tmps).run P w = .ok (.tuple #[val, tmps.getD u undef]) w := by
  have hp' : tmps[p]?.getD undef = .pointer (some ⟨b, 0, none⟩) := by simpa using hp
  simp only [results, h]
  simp [hp', asAddr, hl, Result.andThen]
def Pl.nn (s : Pl.S) : Int := if s.d = true then s.n else -1
/-- v is the document's reader where s says -/
def RfV (w : World) (v : Value) (s : Pl.S) : Prop :=
  ∃ a1 c1 a2 c2, v = agR s.h (Pl.nn s) (.slice a1 s.one.length c1) (.slice a2 s.row.length c2) s.rows s.last s.e ∧ SlK .i64 w a1 s.one.length s.one ∧ SlK .u64 w a2 s.row.length s.row
theorem RfV.later {w w' : World} {v : Value} {s : Pl.S} (h : RfV w v s) (hb : Below w.heap.size w w') : RfV w' v s := by
  obtain ⟨a1, c1, a2, c2, hv, h1, h2⟩ := h
  exact ⟨a1, c1, a2, c2, hv, h1.below hb, h2.below hb⟩
/-- what the document's reader hands back of a byte -/
def RfR (w : World) (q : Pl.S × List Int) (e : Ending) (w' : World) : Prop :=
  ∃ v a c, e = .returned (.tuple #[v, .slice a q.2.length c]) ∧ RfV w' v q.1 ∧ SlK .u64 w' a q.2.length q.2 ∧ Below w.heap.size w w'
set_option maxRecDepth 100000 in
set_option maxHeartbeats 1000000 in
theorem refPlNew_any (h : Hd.H) (w : World) :
    Calls Try.prog 43 #[agH h] w fun e w' => e = .returned (agR h (-1) (.slice none 0 0) (.slice none 0 0) 0 0 0) ∧ Below w.heap.size w w' := by
  unfold agH agR
  go_enter Try.func43, Try.ntmps43
  go_wp2
  go_returns
  exact ⟨rfl, by go_grown⟩
theorem rf_new (h : Hd.H) (w : World) : RfV w (agR h (-1) (.slice none 0 0) (.slice none 0 0) 0 0 0) (Pl.new h) := ⟨none, 0, none, 0, rfl, ⟨rfl, .inl rfl⟩, ⟨rfl, .inl rfl⟩⟩
set_option maxRecDepth 100000 in
set_option maxHeartbeats 1000000 in
theorem refWrong_any (h : Hd.H) (N : Int) (a1 a2 : Option Addr) (n1 c1 n2 c2 : Nat) (rows last e er : Int) (w : World) :
    Calls Try.prog 79 #[agR h N (.slice a1 n1 c1) (.slice a2 n2 c2) rows last e, .int .i64 er] w fun r w' => r = .returned (agR h N (.slice a1 n1 c1) (.slice a2 n2 c2) rows 2 er) ∧ Below w.heap.size w w' := by
  unfold agR
  go_enter Try.func79, Try.ntmps79
  go_wp2
  go_returns
  exact ⟨rfl, by go_grown⟩
end Go.Proofs.Ytldhhhmihfcalaa

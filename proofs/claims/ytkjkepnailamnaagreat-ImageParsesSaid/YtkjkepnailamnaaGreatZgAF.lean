/- What a reader of digits makes of a sample, over any memory. Condition: its head may be, its numbers are samples. -/
import Derived.Test.YtkjkepnailamnaaGreatZPlD
import Derived.Test.YtkjkepnailamnaaGreatZgAB
import Derived.Test.YtkjkepnailamnaaGreatZgAE
import Derived.Laws.CopyOwn
import Derived.Laws.MakeOwn
import Derived.Deep.OwnRows
import Derived.RegionIn
import Derived.Deep.RegionLaw
import Derived.Deep.RegionHeld3
import Derived.Test.YtkjkepnailamnaaGreatZgAA
import Derived.Test.YtkjkepnailamnaaGreatZgAC
import Derived.Test.YtkjkepnailamnaaGreatZQPixF
import Derived.Test.YtkjkepnailamnaaGreatZHedIT
import Derived.Test.YtkjkepnailamnaaGreatZHedIF
namespace Go.Proofs.YtkjkepnailamnaaGreat
open Go.RowKit
set_option linter.unusedVariables false
theorem plTake_any {s : Pl.S} (hG : Pl.Good s) (h0 : s.last = 0) (n : Int) {b : Nat} {sv rv x : Value} {w : World} (T : PlT w b s.h sv rv n sv rv s.one s.row s.rows 0 x w) :
    Calls Tryz.prog 169 #[.pointer (some ⟨b, 0, none⟩)] w (TakeR w b s.h sv rv x (Pl.sample s n).1.one (Pl.sample s n).1.row (Pl.sample s n).1.rows (Pl.sample s n).1.last (Pl.sample s n).2) := by
  have hm := hG.may.m
  have hc := Hj.chan_at s.h
  have ho := hG.one
  have hr := hG.row
  have l1 : s.one.length ≤ 3 := by omega
  have l2 : s.row.length ≤ 4096 := by omega
  unfold Pl.sample
  by_cases h1 : (s.one.length : Int) + 1 < Hj.chan s.h
  · rw [if_pos h1]
    exact take_more hG.may T l1 l2 hG.rows0 (hG.rows1 h0) h1
  rw [if_neg h1]
  by_cases h2 : (s.row.length : Int) + 1 < s.h.w
  · rw [if_pos h2]
    exact take_pixel hG.may T l1 l2 hG.rows0 (hG.rows1 h0) h1 ho h2
  rw [if_neg h2]
  by_cases h3 : s.rows + 1 = s.h.h
  · have e : (Pl.line s n).last = 1 := if_pos h3
    show Calls _ _ _ _ (TakeR w b s.h sv rv x [] [] (s.rows + 1) (Pl.line s n).last (s.row ++ [Pl.pix s n]))
    rw [e]
    exact take_over hG.may T l1 l2 hG.rows0 (hG.rows1 h0) h1 ho h2 hr h3
  · have e : (Pl.line s n).last = 0 := if_neg h3
    show Calls _ _ _ _ (TakeR w b s.h sv rv x [] [] (s.rows + 1) (Pl.line s n).last (s.row ++ [Pl.pix s n]))
    rw [e]
    exact take_row hG.may T l1 l2 hG.rows0 (hG.rows1 h0) h1 ho h2 hr h3
end Go.Proofs.YtkjkepnailamnaaGreat
namespace Go.Proofs.YtkjkepnailamnaaGreat
open Go.RowKit
set_option linter.unusedVariables false
section
variable (c : Int) (w : World) (b : Nat) (h : Hd.H) (n : Int) (sv rv : Value) (rows : Int)
set_option maxHeartbeats 1000000 in
theorem plPut_done (t f : Int) (x : Value) (ht : t ≠ 0) (H : PlC w b h n sv rv rows t f x) :
    Calls Tryz.prog 130 #[.pointer (some ⟨b, 0, none⟩), .int .u8 c] w fun e w' => e = .returned (.tuple #[.slice none 0 0, .int .i64 t]) ∧ ∃ j, w' = w.drewN j := by
  have hc8 := H.c8
  have ht' : (t != 0) = true := by simpa using ht
  go_enter Tryz.func130, Tryz.ntmps130
  go_wp2_with (go_quiet (fail))
  go_ret2
  exact ⟨rfl, _, rfl⟩
variable (fn : Nat) (hn : ∀ args w, (callFunc fn args).run Tryz.prog w = .ok (.enter fn args) w) (H : PlC w b h n sv rv rows 0 0 (.func (.func fn) #[] #[])) (k : Int) (x : Value)
include hn H
set_option maxHeartbeats 1000000 in
theorem plPut_open (hcall : Calls Tryz.prog fn #[.pointer (some ⟨b, 0, none⟩), .int .u8 c] w (StR w b h k sv rv rows x false 0)) :
    Calls Tryz.prog 130 #[.pointer (some ⟨b, 0, none⟩), .int .u8 c] w fun e w' => e = .returned (.tuple #[.slice none 0 0, .int .i64 0]) ∧ PlC w' b h k sv rv rows 0 0 x ∧ w.grownBy w' (some b) := by
  have hc8 := H.c8
  have hc10 := H.c10
  have HC := Lib.hid hcall
  clear hcall
  go_enter Tryz.func130, Tryz.ntmps130
  go_wp2_with (go_at_fn fn; refine HC.out.mono ?_; rintro e w2 ⟨rfl, h2, hg2⟩; have HH2 := Lib.hid h2; have HG2 := Lib.hid hg2; clear h2 hg2)
  go_ret2
  exact ⟨rfl, HH2.out, HG2.out⟩
set_option maxHeartbeats 1000000 in
theorem plPut_err (d : Bool) (er : Int) (he : er ≠ 0) (hcall : Calls Tryz.prog fn #[.pointer (some ⟨b, 0, none⟩), .int .u8 c] w (StR w b h k sv rv rows x d er)) :
    Calls Tryz.prog 130 #[.pointer (some ⟨b, 0, none⟩), .int .u8 c] w fun e w' => e = .returned (.tuple #[.slice none 0 0, .int .i64 2]) ∧ PlC w' b h k sv rv rows 2 er x ∧ w.grownBy w' (some b) := by
  have hc8 := H.c8
  have hc10 := H.c10
  have HC := Lib.hid hcall
  have ke : (er != 0) = true := by simpa using he
  clear hcall he
  go_enter Tryz.func130, Tryz.ntmps130
  go_wp2_with (first | (go_at_fn fn; refine HC.out.mono ?_; rintro e w2 ⟨rfl, h2, hg2⟩; have HH2 := Lib.hid h2; have HG2 := Lib.hid hg2; clear h2 hg2) | (go_at_call 131; refine (plWrong_any w2 b h k sv rv rows 0 0 x HH2.out er).mono ?_; rintro e w3 ⟨rfl, h3, hg3⟩; have hd8 := h3.c8; have HH3 := Lib.hid h3; have HG3 := Lib.hid hg3; clear h3 hg3) | go_quiet (fail))
  go_ret2
  exact ⟨rfl, HH3.out.drewN _, (HG2.out.trans HG3.out).trans (grown_drew _ _ _)⟩
set_option maxHeartbeats 1000000 in
theorem plPut_take (n' rows' t' : Int) (out : List Int) (R : World → World → Option Addr → Value → Value → Prop) (hcall : Calls Tryz.prog fn #[.pointer (some ⟨b, 0, none⟩), .int .u8 c] w (StR w b h k sv rv rows x true 0))
    (htk : ∀ W, PlC W b h k sv rv rows 0 0 x → w.grownBy W (some b) → Calls Tryz.prog 169 #[.pointer (some ⟨b, 0, none⟩)] W fun e w' => ∃ a c sv' rv', e = .returned (.slice a out.length c) ∧ PlC w' b h n' sv' rv' rows' t' 0 x ∧ R W w' a sv' rv') :
    Calls Tryz.prog 130 #[.pointer (some ⟨b, 0, none⟩), .int .u8 c] w fun e w' => ∃ a c sv' rv' W1 W2 j, e = .returned (.tuple #[.slice a out.length c, .int .i64 t']) ∧ w.grownBy W1 (some b) ∧ R W1 W2 a sv' rv' ∧ w' = W2.drewN j := by
  have hc8 := H.c8
  have hc10 := H.c10
  have HC := Lib.hid hcall
  have HT := Lib.hid htk
  obtain ⟨ol, hol⟩ : ∃ ol, out.length = ol := ⟨_, rfl⟩
  rw [hol] at HT ⊢
  clear hcall htk hol
  go_enter Tryz.func130, Tryz.ntmps130
  go_wp2_with (first | (go_at_fn fn; refine HC.out.mono ?_; rintro e w2 ⟨rfl, h2, hg2⟩; have HH2 := Lib.hid h2; have HG2 := Lib.hid hg2; clear h2 hg2) | (go_at_call 169; refine (HT.out w2 HH2.out HG2.out).mono ?_; rintro e w3 ⟨a3, c3, sv3, rv3, rfl, h3, hr3⟩; have hd8 := h3.c8; have HR3 := Lib.hid hr3; clear h3 hr3) | go_quiet (fail))
  go_ret2
  exact ⟨a3, c3, sv3, rv3, w2, w3, _, rfl, HG2.out, HR3.out, rfl⟩
end
end Go.Proofs.YtkjkepnailamnaaGreat
namespace Go.Proofs.YtkjkepnailamnaaGreat
open Go.RowKit
set_option linter.unusedVariables false
theorem Pl.sample_h (s : Pl.S) (k : Int) : (Pl.sample s k).1.h = s.h := by
  unfold Pl.sample
  split
  · rfl
  · split <;> rfl
theorem Pl.sample_d (s : Pl.S) (k : Int) : (Pl.sample s k).1.d = false := by
  unfold Pl.sample
  split
  · rfl
  · split <;> rfl
theorem Pl.sample_e (s : Pl.S) (k : Int) : (Pl.sample s k).1.e = 0 := by
  unfold Pl.sample
  split
  · rfl
  · split <;> rfl
def stOf (s : Pl.S) : Value := if s.h.kd = 1 then stB else if s.d = true then stD else stA
structure PlX (w : World) (b : Nat) (sv rv : Value) (s : Pl.S) : Prop where
  g : Pl.Good s
  z : ∀ k, PlZ b sv rv k → b ≤ k ∧ k < w.heap.size
  ex : ∃ n x, PlC w b s.h n sv rv s.rows s.last s.e x ∧ (s.last = 0 → n = s.n ∧ x = stOf s ∧ w.ownsRow (b + 1) 3 1 sv s.one.length (ints s.one) ∧ w.ownsRow (b + 1) 55 1 rv s.row.length (pixs s.row))
def PlPutR (w : World) (b : Nat) (sv rv : Value) (q : Pl.S × List Int) (e : Ending) (w' : World) : Prop :=
  ∃ a c sv' rv', e = .returned (.tuple #[.slice a q.2.length c, .int .i64 q.1.last]) ∧ PlX w' b sv' rv' q.1 ∧ SlK .u64 w' a q.2.length q.2 ∧ (∀ y, a = some y → y.block ≠ b) ∧ Sep (PlZ b sv rv) w w' ∧ PlNew w sv sv' ∧ PlNew w rv rv'
theorem slk_nil {w : World} : SlK .u64 w none ([] : List Int).length [] := ⟨rfl, .inl rfl⟩
theorem slk_kept {q : IntKind} {w w' : World} {a : Option Addr} {n b : Nat} {l : List Int} (h : SlK q w a n l) (ha : ∀ y, a = some y → y.block ≠ b) (hg : w.grownBy w' (some b)) : SlK q w' a n l := by
  obtain ⟨h1, h2⟩ := h
  refine ⟨h1, ?_⟩
  rcases h2 with h2 | ⟨g, o, rfl, hc⟩
  · exact .inl h2
  · refine .inr ⟨g, o, rfl, fun i hi => ?_⟩
    have hne := ha _ rfl
    exact hg.cell (hc i hi) (by intro e; injection e with e; exact hne e)
theorem PlX.own0 {w : World} {b : Nat} {sv rv : Value} {s : Pl.S} (X : PlX w b sv rv s) (h0 : s.last = 0) : PlT w b s.h sv rv s.n sv rv s.one s.row s.rows 0 (stOf s) w := by
  obtain ⟨n, x, hC, hx⟩ := X.ex
  obtain ⟨rfl, rfl, h1, h2⟩ := hx h0
  have e0 := X.g.e0 (by omega)
  rw [h0, e0] at hC
  exact .start hC h1 h2
theorem PlT.z {W w : World} {b : Nat} {h : Hd.H} {sv0 rv0 : Value} {n : Int} {sv rv : Value} {one row : List Int} {rows t : Int} {x : Value} (T : PlT W b h sv0 rv0 n sv rv one row rows t x w) {w' : World} (hs : w.heap.size ≤ w'.heap.size) : ∀ k, PlZ b sv rv k → b ≤ k ∧ k < w'.heap.size := by
  intro k hk
  have hb := T.c.lt
  rcases hk with rfl | hk | hk
  · exact ⟨Nat.le_refl _, Nat.lt_of_lt_of_le hb hs⟩
  · have := T.s.lt k hk; omega
  · have := T.r.lt k hk; omega
theorem z_up {w w' : World} {b : Nat} {sv rv : Value} (h : ∀ k, PlZ b sv rv k → b ≤ k ∧ k < w.heap.size) (hs : w.heap.size ≤ w'.heap.size) : ∀ k, PlZ b sv rv k → b ≤ k ∧ k < w'.heap.size := fun k hk => ⟨(h k hk).1, Nat.lt_of_lt_of_le (h k hk).2 hs⟩
theorem put_open {w : World} {b : Nat} {sv rv : Value} {s t : Pl.S} (hG : Pl.Good t) (ht : t.last = 0) (T : PlT w b s.h sv rv s.n sv rv s.one s.row s.rows 0 (stOf s) w) (hs : t.h = s.h ∧ t.one = s.one ∧ t.row = s.row ∧ t.rows = s.rows)
    {e : Ending} {w' : World} (he : e = .returned (.tuple #[.slice none 0 0, .int .i64 0])) (hC : PlC w' b s.h t.n sv rv s.rows 0 0 (stOf t)) (hg : w.grownBy w' (some b)) : PlPutR w b sv rv (t, []) e w' := by
  obtain ⟨a1, a2, a3, a4⟩ := hs
  have e0 := hG.e0 (by omega)
  refine ⟨none, 0, sv, rv, by rw [he]; show _ = Ending.returned (.tuple #[.slice none 0 0, .int .i64 t.last]); rw [ht], ⟨hG, T.z hg.size, t.n, stOf t, by rw [a1, a4, ht, e0]; exact hC, fun _ => ⟨rfl, rfl, ?_, ?_⟩⟩, slk_nil, (fun y hy => by cases hy), .grown hg (.inl rfl), .inl rfl, .inl rfl⟩
  · rw [a2]; exact T.s.kept hg (.inr fun e => T.nes e.symm)
  · rw [a3]; exact T.r.kept hg (.inr fun e => T.ner e.symm)
theorem put_wrong {w : World} {b : Nat} {sv rv : Value} {s : Pl.S} (hG : Pl.Good s) (T : PlT w b s.h sv rv s.n sv rv s.one s.row s.rows 0 (stOf s) w) {er : Int} (her : er = 3 ∨ er = 5 ∨ er = 6)
    {e : Ending} {w' : World} {k : Int} {x : Value} (he : e = .returned (.tuple #[.slice none 0 0, .int .i64 2])) (hC : PlC w' b s.h k sv rv s.rows 2 er x) (hg : w.grownBy w' (some b)) : PlPutR w b sv rv (Pl.wrong s er, []) e w' :=
  ⟨none, 0, sv, rv, he, ⟨Pl.good_wrong hG her, T.z hg.size, k, x, hC, fun h => absurd h (show ¬ (2 : Int) = 0 by decide)⟩, slk_nil, (fun y hy => by cases hy), .grown hg (.inl rfl), .inl rfl, .inl rfl⟩
theorem put_sample {w : World} {b : Nat} {sv rv : Value} {s : Pl.S} (hG : Pl.Good s) (h0 : s.last = 0) (T : PlT w b s.h sv rv s.n sv rv s.one s.row s.rows 0 (stOf s) w) (c k : Int) (k0 : 0 ≤ k) (k1 : k ≤ s.h.m) (fn : Nat)
    (hn : ∀ args w, (callFunc fn args).run Tryz.prog w = .ok (.enter fn args) w) (hfn : stOf s = .func (.func fn) #[] #[]) (x : Value) (hx : x = if s.h.kd = 1 then stB else stA)
    (hcall : Calls Tryz.prog fn #[.pointer (some ⟨b, 0, none⟩), .int .u8 c] w (StR w b s.h k sv rv s.rows x true 0)) :
    Calls Tryz.prog 130 #[.pointer (some ⟨b, 0, none⟩), .int .u8 c] w (PlPutR w b sv rv (Pl.sample s k)) := by
  have H := T.c
  rw [hfn] at H
  refine (plPut_take c w b s.h s.n sv rv s.rows fn hn H k x 0 (Pl.sample s k).1.rows (Pl.sample s k).1.last (Pl.sample s k).2 (fun W1 W2 a sv' rv' => PlT W1 b s.h sv rv 0 sv' rv' (Pl.sample s k).1.one (Pl.sample s k).1.row (Pl.sample s k).1.rows (Pl.sample s k).1.last x W2 ∧ SlK .u64 W2 a (Pl.sample s k).2.length (Pl.sample s k).2 ∧ ∀ y, a = some y → y.block ≠ b) hcall ?_).mono ?_
  · intro W hC hg
    refine (plTake_any hG h0 k (.start hC (T.s.kept hg (.inr fun e => T.nes e.symm)) (T.r.kept hg (.inr fun e => T.ner e.symm)))).mono ?_
    rintro e w' ⟨a, c', sv', rv', he, hT, hS⟩
    exact ⟨a, c', sv', rv', he, hT.c, hT, hS⟩
  · rintro e w' ⟨a, c', sv', rv', W1, W2, j, he, hg1, ⟨hT, hS, hA⟩, rfl⟩
    have hGq := Pl.good_sample hG h0 k k0 k1
    have hh := Pl.sample_h s k
    have hd := Pl.sample_d s k
    have hz : (Pl.sample s k).1.n = 0 := hGq.nd hd
    have he2 := Pl.sample_e s k
    have hst : stOf (Pl.sample s k).1 = x := by unfold stOf; rw [hh, hd, hx]; rfl
    refine ⟨a, c', sv', rv', he, ⟨hGq, hT.z (Nat.le_refl _), 0, x, ?_, fun _ => ⟨hz.symm, hst.symm, hT.s, hT.r⟩⟩, hS, hA, ((Sep.grown hg1 (.inl rfl)).trans hT.f).trans (.drewN _ _ _), ?_, ?_⟩
    · rw [hh, he2]; exact hT.c
    · rcases hT.ns with h | h
      · exact .inl h
      · exact .inr fun i hi => Nat.le_trans hg1.size (h i hi)
    · rcases hT.nr with h | h
      · exact .inl h
      · exact .inr fun i hi => Nat.le_trans hg1.size (h i hi)
theorem plPut_any {s : Pl.S} (c : Int) (c0 : 0 ≤ c) (c1 : c ≤ 255) (w : World) (b : Nat) (sv rv : Value) (X : PlX w b sv rv s) :
    Calls Tryz.prog 130 #[.pointer (some ⟨b, 0, none⟩), .int .u8 c] w (PlPutR w b sv rv (Pl.put s c)) := by
  have hG := X.g
  have hm := hG.may.m
  by_cases h0 : s.last = 0
  · have T := X.own0 h0
    have H := T.c
    unfold Pl.put
    rw [if_neg (by omega)]
    cases hb : Tk.blank c with
    | true =>
      rw [if_pos rfl]
      by_cases hd : s.d = true
      · rw [if_pos hd]
        have hk : s.h.kd ≠ 1 := fun e => by rw [hG.kd e] at hd; cases hd
        have hst : stOf s = stD := by unfold stOf; rw [if_neg hk, if_pos hd]
        rw [hst] at H
        exact put_sample hG h0 T c s.n hG.n0 hG.n1 _ enPD hst stA (by rw [if_neg hk]) (plBehind_blank w b s.h s.n sv rv s.rows c c0 c1 hb H)
      · rw [if_neg hd]
        by_cases hk : s.h.kd = 1
        · have hst : stOf s = stB := by unfold stOf; rw [if_pos hk]
          rw [hst] at H
          refine (plPut_open c w b s.h s.n sv rv s.rows _ enPB H s.n stB (plBit_blank w b s.h s.n sv rv s.rows c c0 c1 hb H)).mono ?_
          rintro e w' ⟨he, hC, hg⟩
          exact put_open hG h0 T ⟨rfl, rfl, rfl, rfl⟩ he (by rw [hst]; exact hC) hg
        · have hst : stOf s = stA := by unfold stOf; rw [if_neg hk, if_neg hd]
          rw [hst] at H
          refine (plPut_open c w b s.h s.n sv rv s.rows _ enPA H s.n stA (plAhead_blank w b s.h s.n sv rv s.rows c c0 c1 hb H)).mono ?_
          rintro e w' ⟨he, hC, hg⟩
          exact put_open hG h0 T ⟨rfl, rfl, rfl, rfl⟩ he (by rw [hst]; exact hC) hg
    | false =>
      rw [if_neg (by decide)]
      by_cases hk : s.h.kd = 1
      · rw [if_pos hk]
        have hst : stOf s = stB := by unfold stOf; rw [if_pos hk]
        rw [hst] at H
        by_cases hc : c = 48 ∨ c = 49
        · rw [if_pos hc]
          exact put_sample hG h0 T c (c - 48) (by omega) (by omega) _ enPB hst stB (by rw [if_pos hk]) (plBit_yes w b s.h s.n sv rv s.rows c hc H)
        · rw [if_neg hc]
          refine (plPut_err c w b s.h s.n sv rv s.rows _ enPB H s.n stB false 3 (by decide) (plBit_no w b s.h s.n sv rv s.rows c c0 c1 hb (by omega) (by omega) H)).mono ?_
          rintro e w' ⟨he, hC, hg⟩
          exact put_wrong hG T (.inl rfl) he hC hg
      · rw [if_neg hk]
        obtain ⟨k, er, hs⟩ : ∃ k er, Nu.stepV s.n c s.h.m = (k, er) := ⟨_, _, rfl⟩
        have hse := Tk.stepV_e s.n c s.h.m
        have hsl := Nu.stepV_le s.n c s.h.m hG.n0 hG.n1
        rw [hs] at hse hsl ⊢
        simp only at hse hsl ⊢
        -- the step
        have hstep : ∀ (k' er' : Int), (∀ W, PlC W b s.h s.n sv rv s.rows 0 0 stD → Calls Tryz.prog 193 #[.pointer (some ⟨b, 0, none⟩), .int .u8 c] W fun e w' => e = .returned (.int .i64 er') ∧ PlC w' b s.h k' sv rv s.rows 0 0 stD ∧ W.grownBy w' (some b)) →
            ∃ fn, (∀ args w, (callFunc fn args).run Tryz.prog w = .ok (.enter fn args) w) ∧ stOf s = .func (.func fn) #[] #[] ∧ Calls Tryz.prog fn #[.pointer (some ⟨b, 0, none⟩), .int .u8 c] w (StR w b s.h k' sv rv s.rows stD false er') := by
          intro k' er' hd'
          by_cases hd : s.d = true
          · have hst : stOf s = stD := by unfold stOf; rw [if_neg hk, if_pos hd]
            rw [hst] at H ⊢
            exact ⟨_, enPD, rfl, plBehind_digit w b s.h s.n sv rv s.rows c c0 c1 hb H k' er' hd'⟩
          · have hst : stOf s = stA := by unfold stOf; rw [if_neg hk, if_neg hd]
            rw [hst] at H ⊢
            exact ⟨_, enPA, rfl, plAhead_digit w b s.h s.n sv rv s.rows c c0 c1 hb H k' er' hd'⟩
        by_cases he0 : er = 0
        · rw [if_pos he0]
          obtain ⟨fn, hn, hst, hcall⟩ := hstep k 0 (fun W hW => by
            have := plDigit_any W b s.h s.n sv rv s.rows 0 0 stD hW hG.n0 hG.n1 (by omega) c c0 c1 k er hs (by omega)
            rw [he0] at this; exact this)
          rw [hst] at H
          refine (plPut_open c w b s.h s.n sv rv s.rows fn hn H k stD hcall).mono ?_
          rintro e w' ⟨he, hC, hg⟩
          have hgl := hsl he0
          have hGd : Pl.Good (Pl.digit s k) := ⟨hG.may, hgl.1, hgl.2, (fun h => absurd h (show ¬ true = false by decide)), (fun h => absurd h hk), hG.one, hG.oneIn, hG.row, hG.rows0, (fun _ => hG.rows1 h0), hG.rows2, .inl rfl, fun _ => rfl, (fun h => absurd h (show ¬ (0 : Int) = 2 by decide))⟩
          exact put_open (s := s) (t := Pl.digit s k) hGd rfl T ⟨rfl, rfl, rfl, rfl⟩ he (by
            have : stOf (Pl.digit s k) = stD := by unfold stOf Pl.digit; rw [if_neg hk, if_pos rfl]
            rw [this]; exact hC) hg
        · rw [if_neg he0]
          by_cases he4 : er = 4
          · rw [if_pos he4]
            obtain ⟨fn, hn, hst, hcall⟩ := hstep s.n 5 (fun W hW => plDigit_range W b s.h s.n sv rv s.rows 0 0 stD hW hG.n0 hG.n1 (by omega) c c0 c1 k er hs he4)
            rw [hst] at H
            refine (plPut_err c w b s.h s.n sv rv s.rows fn hn H s.n stD false 5 (by decide) hcall).mono ?_
            rintro e w' ⟨he, hC, hg⟩
            exact put_wrong hG T (.inr (.inl rfl)) he hC hg
          · rw [if_neg he4]
            have he3 : er = 3 := by omega
            obtain ⟨fn, hn, hst, hcall⟩ := hstep k er (fun W hW => plDigit_any W b s.h s.n sv rv s.rows 0 0 stD hW hG.n0 hG.n1 (by omega) c c0 c1 k er hs he4)
            rw [hst] at H
            refine (plPut_err c w b s.h s.n sv rv s.rows fn hn H k stD false er (by omega) hcall).mono ?_
            rintro e w' ⟨he, hC, hg⟩
            exact put_wrong hG T (.inl he3) he hC hg
  · obtain ⟨n, x, hC, hx⟩ := X.ex
    unfold Pl.put
    rw [if_pos (by omega)]
    refine (plPut_done c w b s.h n sv rv s.rows s.last s.e x h0 hC).mono ?_
    rintro e w' ⟨he, j, rfl⟩
    exact ⟨none, 0, sv, rv, he, ⟨hG, X.z, n, x, hC, fun h => absurd h h0⟩, slk_nil, (fun y hy => by cases hy), .drewN _ _ _, .inl rfl, .inl rfl⟩
set_option maxHeartbeats 1000000 in
theorem plEnd_any {s : Pl.S} (w : World) (b : Nat) (sv rv : Value) (X : PlX w b sv rv s) :
    Calls Tryz.prog 83 #[.pointer (some ⟨b, 0, none⟩)] w (PlPutR w b sv rv (Pl.fin s)) := by
  have HP := Lib.hid (plPut_any 32 (by decide) (by decide) w b sv rv X)
  clear X
  by_cases h0 : (Pl.put s 32).1.last = 0
  · have hf : Pl.fin s = (Pl.wrong (Pl.put s 32).1 6, (Pl.put s 32).2) := by unfold Pl.fin; rw [if_pos h0]
    rw [hf]
    obtain ⟨q, hq⟩ : ∃ q, Pl.put s 32 = q := ⟨_, rfl⟩
    rw [hq] at HP h0 ⊢
    obtain ⟨ol, hol⟩ : ∃ ol, q.2.length = ol := ⟨_, rfl⟩
    have HOL := Lib.hid hol
    have H0 := Lib.hid h0
    clear hf hq hol h0
    go_enter Tryz.func83, Tryz.ntmps83
    go_wp2_with fail
    refine HP.out.mono ?_
    rintro e w2 ⟨a, c, sv', rv', rfl, X2, S2, A2, F2, N2, N3⟩
    obtain ⟨n, x, hC, hx⟩ := X2.ex
    rw [HOL.out, H0.out]
    have HX2 := Lib.hid X2
    have HS2 := Lib.hid S2
    have HA2 := Lib.hid A2
    have HF2 := Lib.hid F2
    have HN2 := Lib.hid N2
    have HN3 := Lib.hid N3
    have HC := Lib.hid hC
    clear X2 S2 A2 F2 N2 N3 hx hC
    go_wp2_with (first | (go_at_call 131; refine (plWrong_any w2 b _ _ _ _ _ _ _ _ HC.out 6).mono ?_; rintro e w3 ⟨rfl, h3, hg3⟩; have hd8 := h3.c8; have HH3 := Lib.hid h3; have HG3 := Lib.hid hg3; clear h3 hg3) | go_quiet (fail))
    go_ret2
    refine ⟨a, c, sv', rv', by rw [HOL.out]; rfl, ⟨Pl.good_wrong HX2.out.g (.inr (.inr rfl)), z_up HX2.out.z HG3.out.size, _, _, HH3.out.drewN _, fun h => absurd h (show ¬ (2 : Int) = 0 by decide)⟩, ?_, HA2.out, (HF2.out.trans (.grown HG3.out (.inl rfl))).trans (.drewN _ _ _), HN2.out, HN3.out⟩
    exact slk_kept (w := w2) HS2.out HA2.out (HG3.out.trans (grown_drew _ _ _))
  · have hf : Pl.fin s = Pl.put s 32 := by unfold Pl.fin; rw [if_neg h0]
    rw [hf]
    obtain ⟨q, hq⟩ : ∃ q, Pl.put s 32 = q := ⟨_, rfl⟩
    rw [hq] at HP h0 ⊢
    obtain ⟨t, ht⟩ : ∃ t, q.1.last = t := ⟨_, rfl⟩
    have h0' : (t == 0) = false := by rw [← ht]; simpa using h0
    obtain ⟨ol, hol⟩ : ∃ ol, q.2.length = ol := ⟨_, rfl⟩
    have HOL := Lib.hid hol
    have HT := Lib.hid ht
    clear hf hq hol h0 ht
    go_enter Tryz.func83, Tryz.ntmps83
    go_wp2_with fail
    refine HP.out.mono ?_
    rintro e w2 ⟨a, c, sv', rv', rfl, X2, S2, A2, F2, N2, N3⟩
    obtain ⟨n, x, hC, hx⟩ := X2.ex
    have hc8 := hC.c8
    rw [HOL.out, HT.out]
    rw [HT.out] at hc8
    have HX2 := Lib.hid X2
    have HS2 := Lib.hid S2
    have HA2 := Lib.hid A2
    have HF2 := Lib.hid F2
    have HN2 := Lib.hid N2
    have HN3 := Lib.hid N3
    clear X2 S2 A2 F2 N2 N3 hx hC
    go_wp2_with (go_quiet (fail))
    go_ret2
    refine ⟨a, c, sv', rv', by rw [HOL.out, HT.out]; rfl, ⟨HX2.out.g, HX2.out.z, HX2.out.ex⟩, HS2.out, HA2.out, HF2.out.trans (.drewN _ _ _), HN2.out, HN3.out⟩
end Go.Proofs.YtkjkepnailamnaaGreat
namespace Go.Proofs.YtkjkepnailamnaaGreat
open Go.RowKit
set_option linter.unusedVariables false
instance (h : Hd.H) : Decidable (Pl.May h) := by unfold Pl.May; infer_instance
theorem Pl.may_no {h : Hd.H} (h1 : ¬ Hd.May h) : decide (Pl.May h) = false := decide_eq_false fun H => h1 H.1
set_option maxHeartbeats 1000000 in
theorem plMay_any (h : Hd.H) (hf : Hj.Fit h) (w : World) :
    Calls Tryz.prog 158 #[agH h] w fun e w' => e = .returned (.bool (decide (Pl.May h))) ∧ Below w.heap.size w w' := by
  have HM := Lib.hid (hmay_any h hf)
  by_cases h1 : Hd.May h
  · have HR := Lib.hid (hraw_any h h1)
    simp only [decide_eq_true h1] at HM
    by_cases h2 : h.kd ≤ 3
    · have X := Lib.hid (show decide (Pl.May h) = true from decide_eq_true ⟨h1, h2⟩)
      simp only [decide_eq_false (show ¬ 3 < h.kd by omega)] at HR
      unfold agH at HM HR ⊢
      clear h1 h2
      go_enter Tryz.func158, Tryz.ntmps158
      go_wp2_with (first | (go_at_call 115; refine (HM.out _).mono ?_; rintro e w9 ⟨rfl, hb9⟩; have hBz := Lib.hid (((Below.refl _ w).alloc (Nat.le_refl _) _).trans (hb9.mono (by simp))); obtain ⟨n0, n1, n2, n3⟩ := ((Hb.new w 62 h).later hb9).cells; clear hb9) | (go_at_call 87; refine (HR.out _).mono ?_; rintro e w8 ⟨rfl, hb8⟩))
      go_ret
      exact ⟨ret_b X.out.symm, hBz.out.trans (hb8.mono hBz.out.size)⟩
    · have X := Lib.hid (show decide (Pl.May h) = false from decide_eq_false fun H => h2 H.2)
      simp only [decide_eq_true (show 3 < h.kd by omega)] at HR
      unfold agH at HM HR ⊢
      clear h1 h2
      go_enter Tryz.func158, Tryz.ntmps158
      go_wp2_with (first | (go_at_call 115; refine (HM.out _).mono ?_; rintro e w9 ⟨rfl, hb9⟩; have hBz := Lib.hid (((Below.refl _ w).alloc (Nat.le_refl _) _).trans (hb9.mono (by simp))); obtain ⟨n0, n1, n2, n3⟩ := ((Hb.new w 62 h).later hb9).cells; clear hb9) | (go_at_call 87; refine (HR.out _).mono ?_; rintro e w8 ⟨rfl, hb8⟩))
      go_ret
      exact ⟨ret_b X.out.symm, hBz.out.trans (hb8.mono hBz.out.size)⟩
  · have X := Lib.hid (Pl.may_no h1)
    simp only [decide_eq_false h1] at HM
    unfold agH at HM ⊢
    clear h1
    go_enter Tryz.func158, Tryz.ntmps158
    go_wp2_with (go_at_call 115; refine (HM.out _).mono ?_; rintro e w9 ⟨rfl, hb9⟩; have hBz := Lib.hid (((Below.refl _ w).alloc (Nat.le_refl _) _).trans (hb9.mono (by simp))))
    go_ret
    exact ⟨ret_b X.out.symm, hBz.out⟩
set_option maxHeartbeats 1000000 in
theorem refPlMay_any (h : Hd.H) (hf : Hj.Fit h) (w : World) :
    Calls Tryz.prog 91 #[agH h] w fun e w' => e = .returned (.bool (decide (Pl.May h))) ∧ Below w.heap.size w w' := by
  have HM := Lib.hid (refMay_any h hf)
  by_cases h1 : Hd.May h
  · simp only [decide_eq_true h1] at HM
    have X := Lib.hid (show decide (Pl.May h) = decide (h.kd < 4) by
      by_cases h2 : h.kd ≤ 3
      · rw [decide_eq_true (show h.kd < 4 by omega)]; exact decide_eq_true ⟨h1, h2⟩
      · rw [decide_eq_false (show ¬ h.kd < 4 by omega)]; exact decide_eq_false fun H => h2 H.2)
    unfold agH at HM ⊢
    clear h1
    go_enter Tryz.func91, Tryz.ntmps91
    go_wp2_with (go_at_call 88; refine (HM.out _).mono ?_; rintro e w9 ⟨rfl, hb9⟩; have hBz := Lib.hid (((Below.refl _ w).alloc (Nat.le_refl _) _).trans (hb9.mono (by simp))); obtain ⟨n0, n1, n2, n3⟩ := ((Hb.new w 112 h).later hb9).cells; clear hb9)
    go_ret
    exact ⟨ret_b X.out.symm, hBz.out⟩
  · have X := Lib.hid (Pl.may_no h1)
    simp only [decide_eq_false h1] at HM
    unfold agH at HM ⊢
    clear h1
    go_enter Tryz.func91, Tryz.ntmps91
    go_wp2_with (go_at_call 88; refine (HM.out _).mono ?_; rintro e w9 ⟨rfl, hb9⟩; have hBz := Lib.hid (((Below.refl _ w).alloc (Nat.le_refl _) _).trans (hb9.mono (by simp))); obtain ⟨n0, n1, n2, n3⟩ := ((Hb.new w 112 h).later hb9).cells; clear hb9)
    go_ret
    exact ⟨ret_b X.out.symm, hBz.out⟩
def PlNewR (h : Hd.H) (w : World) (e : Ending) (w' : World) : Prop :=
  ∃ b, e = .returned (.tuple #[.pointer (some ⟨b, 0, none⟩), .int .i64 0]) ∧ w.heap.size ≤ b ∧ PlX w' b (.slice none 0 0) (.slice none 0 0) (Pl.new h) ∧ Below w.heap.size w w'
theorem new_x {w : World} {b : Nat} {h : Hd.H} (hm : Pl.May h) {x : Value} (hx : x = stOf (Pl.new h)) (H : PlC w b h 0 (.slice none 0 0) (.slice none 0 0) 0 0 0 x) : PlX w b (.slice none 0 0) (.slice none 0 0) (Pl.new h) :=
  ⟨Pl.good_new hm, (fun k hk => hk.elim (fun h => by subst h; exact ⟨Nat.le_refl _, H.lt⟩) fun h => h.elim (fun h => by cases h) fun h => by cases h), 0, x, H, fun _ => ⟨rfl, hx, World.ownsRow_nil _ _ _ _, World.ownsRow_nil _ _ _ _⟩⟩
set_option maxRecDepth 100000 in
set_option maxHeartbeats 1000000 in
theorem plNew_yes (h : Hd.H) (hf : Hj.Fit h) (hm : Pl.May h) (w : World) :
    Calls Tryz.prog 134 #[agH h] w (PlNewR h w) := by
  have HM := Lib.hid (plMay_any h hf)
  simp only [decide_eq_true hm] at HM
  by_cases hk : h.kd = 1
  · have hx : stB = stOf (Pl.new h) := by unfold stOf; rw [if_pos (show (Pl.new h).h.kd = 1 from hk)]
    have HX := Lib.hid hx
    have hk' : (h.kd == 1) = true := by simpa using hk
    have HM' := Lib.hid hm
    unfold agH at HM ⊢
    clear hk hx hm
    go_enter Tryz.func134, Tryz.ntmps134
    go_wp2_with (go_at_call 158; refine (HM.out _).mono ?_; rintro e w9 ⟨rfl, hb9⟩; have hBz := Lib.hid (((Below.refl _ w).alloc (Nat.le_refl _) _).trans (hb9.mono (by simp))); have hz9 := Lib.hid (show w.heap.size + 1 ≤ w9.heap.size by have := hb9.size; simpa using this); obtain ⟨n0, n1, n2, n3⟩ := ((Hb.new w 62 h).later hb9).cells; have hlt : w.heap.size < w9.heap.size := (by have := hb9.size; simp at this; omega); have hne : ¬ w.heap.size = w9.heap.size := Nat.ne_of_lt hlt; clear hb9)
    go_ret2
    refine ⟨w9.heap.size, rfl, by have := hBz.out.size; omega, new_x HM'.out HX.out ?_, ?_⟩
    · exact (plain_cells w9 h (.slice none 0 0) (.slice none 0 0) 0 0 0 0 stB)
    · exact hBz.out.alloc hBz.out.size _
  · have hx : stA = stOf (Pl.new h) := by unfold stOf; rw [if_neg (show ¬ (Pl.new h).h.kd = 1 from hk)]; rfl
    have HX := Lib.hid hx
    have hk' : (h.kd == 1) = false := by simpa using hk
    have HM' := Lib.hid hm
    unfold agH at HM ⊢
    clear hk hx hm
    go_enter Tryz.func134, Tryz.ntmps134
    go_wp2_with (go_at_call 158; refine (HM.out _).mono ?_; rintro e w9 ⟨rfl, hb9⟩; have hBz := Lib.hid (((Below.refl _ w).alloc (Nat.le_refl _) _).trans (hb9.mono (by simp))); obtain ⟨n0, n1, n2, n3⟩ := ((Hb.new w 62 h).later hb9).cells; have hlt : w.heap.size < w9.heap.size := (by have := hb9.size; simp at this; omega); have hne : ¬ w.heap.size = w9.heap.size := Nat.ne_of_lt hlt; clear hb9)
    go_ret2
    refine ⟨w9.heap.size, rfl, by have := hBz.out.size; omega, new_x HM'.out HX.out ?_, ?_⟩
    · exact (plain_cells w9 h (.slice none 0 0) (.slice none 0 0) 0 0 0 0 stA)
    · exact hBz.out.alloc hBz.out.size _
set_option maxHeartbeats 1000000 in
theorem plNew_no (h : Hd.H) (hf : Hj.Fit h) (hm : ¬ Pl.May h) (w : World) :
    Calls Tryz.prog 134 #[agH h] w fun e w' => e = .returned (.tuple #[.pointer none, .int .i64 1]) ∧ Below w.heap.size w w' := by
  have HM := Lib.hid (plMay_any h hf)
  simp only [decide_eq_false hm] at HM
  unfold agH at HM ⊢
  clear hm
  go_enter Tryz.func134, Tryz.ntmps134
  go_wp2_with (go_at_call 158; refine (HM.out _).mono ?_; rintro e w9 ⟨rfl, hb9⟩; have hBz := Lib.hid (((Below.refl _ w).alloc (Nat.le_refl _) _).trans (hb9.mono (by simp))))
  go_ret2
  exact ⟨rfl, hBz.out⟩
end Go.Proofs.YtkjkepnailamnaaGreat
namespace Go.Proofs.YtkjkepnailamnaaGreat
open Go.RowKit
set_option linter.unusedVariables false
namespace Pl
def goodM (M : Int) (h : Hd.H) : Hd.H := ⟨1 + Ar.around h.kd 6, 1 + Ar.around h.w M, 1 + Ar.around h.h M, if Hd.bits (1 + Ar.around h.kd 6) = true then 1 else 1 + Ar.around h.m 65535⟩
def headV (M : Int) (h : Hd.H) : Hd.H := if 3 < (goodM M h).kd then ⟨(goodM M h).kd - 3, (goodM M h).w, (goodM M h).h, (goodM M h).m⟩ else goodM M h
end Pl
end Go.Proofs.YtkjkepnailamnaaGreat
namespace Go.Proofs.YtkjkepnailamnaaGreat
open Go.RowKit
set_option linter.unusedVariables false
instance (h : Hd.H) : Decidable (Rw.May h) := by unfold Rw.May; infer_instance
theorem Rw.may_no {h : Hd.H} (h1 : ¬ Hd.May h) : decide (Rw.May h) = false := decide_eq_false fun H => h1 H.1
def Rw.headV (M : Int) (h : Hd.H) : Hd.H := if (Pl.goodM M h).kd < 4 then ⟨(Pl.goodM M h).kd + 3, (Pl.goodM M h).w, (Pl.goodM M h).h, (Pl.goodM M h).m⟩ else Pl.goodM M h
set_option maxHeartbeats 1000000 in
theorem rwMay_any (h : Hd.H) (hf : Hj.Fit h) (w : World) :
    Calls Tryz.prog 154 #[agH h] w fun e w' => e = .returned (.bool (decide (Rw.May h))) ∧ Below w.heap.size w w' := by
  have HM := Lib.hid (hmay_any h hf)
  by_cases h1 : Hd.May h
  · have HR := Lib.hid (hraw_any h h1)
    simp only [decide_eq_true h1] at HM
    by_cases h2 : 4 ≤ h.kd
    · have X := Lib.hid (show decide (Rw.May h) = true from decide_eq_true ⟨h1, h2⟩)
      simp only [decide_eq_true (show 3 < h.kd by omega)] at HR
      unfold agH at HM HR ⊢
      clear h1 h2
      go_enter Tryz.func154, Tryz.ntmps154
      go_wp2_with (first | (go_at_call 115; refine (HM.out _).mono ?_; rintro e w9 ⟨rfl, hb9⟩; have hBz := Lib.hid (((Below.refl _ w).alloc (Nat.le_refl _) _).trans (hb9.mono (by simp))); obtain ⟨n0, n1, n2, n3⟩ := ((Hb.new w 62 h).later hb9).cells; clear hb9) | (go_at_call 87; refine (HR.out _).mono ?_; rintro e w8 ⟨rfl, hb8⟩))
      go_ret
      exact ⟨ret_b X.out.symm, hBz.out.trans (hb8.mono hBz.out.size)⟩
    · have X := Lib.hid (show decide (Rw.May h) = false from decide_eq_false fun H => h2 H.2)
      simp only [decide_eq_false (show ¬ 3 < h.kd by omega)] at HR
      unfold agH at HM HR ⊢
      clear h1 h2
      go_enter Tryz.func154, Tryz.ntmps154
      go_wp2_with (first | (go_at_call 115; refine (HM.out _).mono ?_; rintro e w9 ⟨rfl, hb9⟩; have hBz := Lib.hid (((Below.refl _ w).alloc (Nat.le_refl _) _).trans (hb9.mono (by simp))); obtain ⟨n0, n1, n2, n3⟩ := ((Hb.new w 62 h).later hb9).cells; clear hb9) | (go_at_call 87; refine (HR.out _).mono ?_; rintro e w8 ⟨rfl, hb8⟩))
      go_ret
      exact ⟨ret_b X.out.symm, hBz.out.trans (hb8.mono hBz.out.size)⟩
  · have X := Lib.hid (Rw.may_no h1)
    simp only [decide_eq_false h1] at HM
    unfold agH at HM ⊢
    clear h1
    go_enter Tryz.func154, Tryz.ntmps154
    go_wp2_with (go_at_call 115; refine (HM.out _).mono ?_; rintro e w9 ⟨rfl, hb9⟩; have hBz := Lib.hid (((Below.refl _ w).alloc (Nat.le_refl _) _).trans (hb9.mono (by simp))))
    go_ret
    exact ⟨ret_b X.out.symm, hBz.out⟩
set_option maxHeartbeats 1000000 in
theorem refRwMay_any (h : Hd.H) (hf : Hj.Fit h) (w : World) :
    Calls Tryz.prog 92 #[agH h] w fun e w' => e = .returned (.bool (decide (Rw.May h))) ∧ Below w.heap.size w w' := by
  have HM := Lib.hid (refMay_any h hf)
  by_cases h1 : Hd.May h
  · simp only [decide_eq_true h1] at HM
    have X := Lib.hid (show decide (Rw.May h) = decide (3 < h.kd) by
      by_cases h2 : 4 ≤ h.kd
      · rw [decide_eq_true (show 3 < h.kd by omega)]; exact decide_eq_true ⟨h1, h2⟩
      · rw [decide_eq_false (show ¬ 3 < h.kd by omega)]; exact decide_eq_false fun H => h2 H.2)
    unfold agH at HM ⊢
    clear h1
    go_enter Tryz.func92, Tryz.ntmps92
    go_wp2_with (go_at_call 88; refine (HM.out _).mono ?_; rintro e w9 ⟨rfl, hb9⟩; have hBz := Lib.hid (((Below.refl _ w).alloc (Nat.le_refl _) _).trans (hb9.mono (by simp))); obtain ⟨n0, n1, n2, n3⟩ := ((Hb.new w 112 h).later hb9).cells; clear hb9)
    go_ret
    exact ⟨ret_b X.out.symm, hBz.out⟩
  · have X := Lib.hid (Rw.may_no h1)
    simp only [decide_eq_false h1] at HM
    unfold agH at HM ⊢
    clear h1
    go_enter Tryz.func92, Tryz.ntmps92
    go_wp2_with (go_at_call 88; refine (HM.out _).mono ?_; rintro e w9 ⟨rfl, hb9⟩; have hBz := Lib.hid (((Below.refl _ w).alloc (Nat.le_refl _) _).trans (hb9.mono (by simp))); obtain ⟨n0, n1, n2, n3⟩ := ((Hb.new w 112 h).later hb9).cells; clear hb9)
    go_ret
    exact ⟨ret_b X.out.symm, hBz.out⟩
set_option maxHeartbeats 1000000 in
theorem refWide_any (h : Hd.H) (w : World) :
    Calls Tryz.prog 94 #[agH h] w fun e w' => e = .returned (.int .i64 (Rw.wide h : Int)) ∧ Below w.heap.size w w' := by
  rcases Rw.wide_at h with ⟨h1, h2⟩ | ⟨h1, h2⟩
  all_goals
    rw [h2]
    unfold agH
    clear h2
    go_enter Tryz.func94, Tryz.ntmps94
    go_wp2
    go_returns
    exact ⟨rfl, by go_grown⟩
end Go.Proofs.YtkjkepnailamnaaGreat
namespace Go.Proofs.YtkjkepnailamnaaGreat
open Go.RowKit
set_option linter.unusedVariables false
namespace Rw
theorem wpList_app1 {P : Program} {w : World} {ops : Array Oper} {rest : List Oper} {o : Oper} {a : Act} {Q : Exit → Act → World → Prop} (hgd : o.guard = none) (s x : Operand) (t : TypeId)
    (ho : o.op = .call { callee := .builtin .append, args := #[s, x], argTypes := #[t, t] })
    (base : Nat) (e : TypeId) (i : TypeInfo) (z : Value) (bytes : Nat) (ht : P.underlying t = some (.slice e)) (hi : P.info? e = some i) (hz : i.zero = some z) (hzc : z.cells.size = 1)
    (hsize : i.size = 1) (hby : i.bytes = bytes) (v : Value) (n : Nat) (xs : List Value) (hs : a.eval s = v) (hown : w.ownsRow base e 1 v n xs)
    (g : Nat) (y : Value) (hyc : y.oneCell' = true) (hx : a.eval x = .slice (some ⟨g, 0, none⟩) 1 1) (hy : w.cell? ⟨g, 0, none⟩ = some y) (h63 : n + 1 ≤ maxLen) (hbytes : (n + 1) * bytes ≤ 140737488355328) (hbase : base ≤ w.heap.size)
    (h : ∀ v' w', w'.ownsRow base e 1 v' (n + 1) (xs ++ [y]) → w.grownBy w' v.ownBlock → (v'.ownBlock = v.ownBlock ∨ v'.ownBlock = some w.heap.size) → wpList P ops Q rest (a.put o.dst v') w') : wpList P ops Q (o :: rest) a w := by
  refine wpList_plain hgd fun K hK => ?_
  obtain ⟨v', w', hr, h2, h3, _, h4⟩ := run_append_own_at (P := P) w base t o.type e i z 1 bytes ht hi hz hsize hby hzc (by decide) v n xs hown ⟨g, 0, none⟩ 1 1 [y] (by simp) (fun j u hu => by
      cases j with
      | zero => simp at hu; subst hu; simpa [Addr.add] using hy
      | succ j => simp at hu) (fun u hu => by rw [List.mem_singleton.1 hu]; exact hyc) h63 hbytes hbase
  unfold Oper.wp execOp
  simp only [ho, resolve, invoke, builtin, Sem.run_bind, Sem.run_pure, Result.andThen_ok, List.map_toArray, List.map_cons, List.map_nil, hs, hx, hr]
  exact hK _ _ (h v' w' h2 h3 h4)
def OwnG (base : Nat) (w : World) (g : Nat) (L : List Int) : Prop := base ≤ g ∧ w.heap[g]? = some (.cells (L.map (Value.int .u64)).toArray 55 (0, 0))
theorem OwnG.lt {base g : Nat} {w : World} {L : List Int} (h : OwnG base w g L) : g < w.heap.size := (Array.getElem?_eq_some_iff.1 h.2).1
theorem OwnG.later {base g : Nat} {w w' : World} {L : List Int} (h : OwnG base w g L) (hb : Below w.heap.size w w') : OwnG base w' g L := ⟨h.1, (hb.block g h.lt).trans h.2⟩
theorem OwnG.mono {base base' g : Nat} {w : World} {L : List Int} (h : OwnG base w g L) (hb : base' ≤ base) : OwnG base' w g L := ⟨Nat.le_trans hb h.1, h.2⟩
theorem OwnG.cell {base g : Nat} {w : World} {L : List Int} (h : OwnG base w g L) {i : Nat} (hi : i < L.length) : w.cell? ⟨g, i, none⟩ = some (.int .u64 (L.getD i 0)) := by
  simp [World.cell?, h.2, List.getD_eq_getElem?_getD, List.getElem?_eq_getElem hi]
theorem OwnG.sl {base g : Nat} {w : World} {L : List Int} (h : OwnG base w g L) : SlK .u64 w (some ⟨g, 0, none⟩) L.length L := by
  refine ⟨rfl, .inr ⟨g, 0, rfl, fun i hi => ?_⟩⟩
  rw [Nat.zero_add]; exact h.cell hi
theorem OwnG.own {base g : Nat} {w : World} {L : List Int} (h : OwnG base w g L) : OwnK .u64 base w (some ⟨g, 0, none⟩) L :=
  .inr ⟨g, rfl, h.1, h.lt, fun i hi => h.cell hi, fun i => by simp [World.frozen?, h.2]⟩
theorem heapNew (w : World) (o : Obj) : (w.alloc o).heap[w.heap.size]? = some o := World.alloc_heap_new w o
theorem heapOld (w : World) (o : Obj) {g : Nat} {x : Obj} (h : w.heap[g]? = some x) : (w.alloc o).heap[g]? = some x := by
  rw [Below.heap_alloc w o g (Array.getElem?_eq_some_iff.1 h).1]; exact h
theorem heapSet (w : World) (a : Addr) (v : Value) {g : Nat} {x : Obj} (h : w.heap[g]? = some x) (hne : g ≠ a.block) : (w.setCell a v).heap[g]? = some x := by
  rw [Below.heap_setCell w a v g hne]; exact h
theorem made_noughts (n : Nat) : madeCells #[Value.int .u64 0] n = ((List.replicate n (0 : Int)).map (Value.int .u64)).toArray := by
  apply Array.ext
  · simp [madeCells]
  · intro i h1 h2
    simp [madeCells, Nat.mod_one]
theorem ownG_row {base g : Nat} {w : World} {L : List Int} (h : OwnG base w g L) (off : Nat) (cs : List Int) : OwnG base (w.setRow g (splice (L.map (Value.int .u64)) off (cs.map (Value.int .u64))).toArray) g (splice L off cs) := by
  refine ⟨h.1, ?_⟩
  rw [setRow_heap w g _ _ _ _ h.2]
  simp [splice]
theorem one_px (zs : List Int) : ∀ u ∈ zs.map (Value.int .u64), u.oneCell' = true := by
  intro u hu
  obtain ⟨y, _, rfl⟩ := List.mem_map.1 hu
  rfl
theorem slk_pos {q : IntKind} {w : World} {a : Option Addr} {n : Nat} {l : List Int} (h : SlK q w a n l) (hn : 0 < n) : ∃ g o, a = some ⟨g, o, none⟩ ∧ ∀ i, i < n → w.cell? ⟨g, o + i, none⟩ = some (.int q (l.getD i 0)) := by
  rcases h.2 with h2 | ⟨g, o, e, hc⟩
  · omega
  · exact ⟨g, o, e, hc⟩
theorem slk_src {w : World} {a : Option Addr} {n : Nat} {zs : List Int} (h : SlK .u64 w a n zs) (hn : 0 < n) : ∃ ad, a = some ad ∧ ∀ j v, (zs.map (Value.int .u64))[j]? = some v → w.cell? (ad.add j) = some v := by
  obtain ⟨b, off, rfl, hc⟩ := slk_pos h hn
  refine ⟨_, rfl, fun j v hv => ?_⟩
  rw [List.getElem?_map] at hv
  rcases Nat.lt_or_ge j zs.length with hj | hj
  · rw [List.getElem?_eq_getElem hj] at hv
    rw [addrK_add, hc j (by rw [← h.1]; exact hj), ← hv, List.getD_eq_getElem?_getD, List.getElem?_eq_getElem hj]; rfl
  · rw [List.getElem?_eq_none hj] at hv; cases hv
theorem wpList_copy_row {P : Program} {w : World} {ops : Array Oper} {rest : List Oper} {o : Oper} {a : Act} {Q : Exit → Act → World → Prop} (hgd : o.guard = none) (d s : Operand) (dT sT : TypeId)
    (ho : o.op = .call { callee := .builtin .copy, args := #[d, s], argTypes := #[dT, sT] }) (elem : TypeId) (hu : P.underlying dT = some (.slice elem)) (hsz : (P.info? elem).map (·.size) = some 1)
    (g off dLen dCap : Nat) (ad : Addr) (sLen sCap : Nat) (hd : a.eval d = .slice (some ⟨g, off, none⟩) dLen dCap) (hs : a.eval s = .slice (some ad) sLen sCap)
    (cur : List Value) (t : TypeId) (hg : w.heap[g]? = some (.cells cur.toArray t (0, 0))) (cs : List Value) (hn : cs.length = Nat.min sLen dLen)
    (hsrc : ∀ j v, cs[j]? = some v → w.cell? (ad.add j) = some v) (hfit : off + cs.length ≤ cur.length) (h1 : ∀ v ∈ cs, v.oneCell' = true)
    (h : ∀ v9, wpList P ops Q rest (a.put o.dst v9) (w.setRow g (splice cur off cs).toArray)) : wpList P ops Q (o :: rest) a w := by
  refine wpList_copy_own hgd d s dT sT ho elem hu hsz g off dLen dCap ad sLen sCap hd hs cur.toArray t hg cs hn hsrc (by simpa using hfit) h1 ?_
  have h' := h (goInt cs.length)
  unfold splice at h'
  exact h'
theorem slk_nil {w : World} : SlK .u64 w none ([] : List Int).length [] := ⟨rfl, .inl rfl⟩
theorem slk_row {w : World} {base k : Nat} {v : Value} {l : List Int} (hr : w.ownsRow base 55 1 v k (pixs l)) (hk : l.length = k) :
    ∃ a c, v = .slice a k c ∧ SlK .u64 w a k l := by
  rcases hr.2 with ⟨rfl, rfl⟩ | ⟨g, cap, cur, rfl, hb, hg, hle, hm, hs, ht⟩
  · exact ⟨none, 0, rfl, hk, .inl rfl⟩
  · exact ⟨_, cap, rfl, slk_of_row (c := cap) hr hk⟩
theorem size_px : (Tryz.prog.info? 55).map (·.size) = some 1 := by kernel_rfl
end Rw
end Go.Proofs.YtkjkepnailamnaaGreat
namespace Go.Proofs.YtkjkepnailamnaaGreat
open Go.RowKit
set_option linter.unusedVariables false
def RwC (w : World) (b : Nat) (h : Hd.H) (n : Int) (sv rv : Value) (rows t f : Int) (x : Value) : Prop :=
  w.heap[b]? = some (.cells #[.int .i64 h.kd, .int .i64 h.w, .int .i64 h.h, .int .i64 h.m, .int .i64 n, sv, rv, .int .i64 rows, .int .i64 t, .int .i64 f, x] 254 (0, 0))
section
variable {w w' : World} {b : Nat} {h : Hd.H} {n : Int} {sv rv : Value} {rows t f : Int} {x : Value}
theorem RwC.lt (H : RwC w b h n sv rv rows t f x) : b < w.heap.size := (Array.getElem?_eq_some_iff.1 H).1
theorem RwC.later (H : RwC w b h n sv rv rows t f x) (hb : Below w.heap.size w w') : RwC w' b h n sv rv rows t f x := (hb.block b H.lt).trans H
theorem RwC.kept {row : Option Nat} (H : RwC w b h n sv rv rows t f x) (hg : w.grownBy w' row) (hne : some b ≠ row) : RwC w' b h n sv rv rows t f x := (hg.block b H.lt hne).trans H
theorem RwC.sep {Z : Nat → Prop} (H : RwC w b h n sv rv rows t f x) (hs : Sep Z w w') (hz : ¬ Z b) : RwC w' b h n sv rv rows t f x := (hs.block b H.lt hz).trans H
theorem RwC.drewN (H : RwC w b h n sv rv rows t f x) (k : Nat) : RwC (w.drewN k) b h n sv rv rows t f x := H
theorem RwC.drew (H : RwC w b h n sv rv rows t f x) : RwC w.drew b h n sv rv rows t f x := H
theorem RwC.alloc (H : RwC w b h n sv rv rows t f x) (o : Obj) : RwC (w.alloc o) b h n sv rv rows t f x := H.kept (World.grownBy_alloc w o none) (by simp)
theorem RwC.fr (H : RwC w b h n sv rv rows t f x) (o : Nat) : w.frozen? ⟨b, o, none⟩ = false := by have h' : w.heap[b]? = _ := H; simp [World.frozen?, h']
theorem RwC.c0 (H : RwC w b h n sv rv rows t f x) : w.cell? ⟨b, 0, none⟩ = some (.int .i64 h.kd) := by have h' : w.heap[b]? = _ := H; simp [World.cell?, h']
theorem RwC.c1 (H : RwC w b h n sv rv rows t f x) : w.cell? ⟨b, 1, none⟩ = some (.int .i64 h.w) := by have h' : w.heap[b]? = _ := H; simp [World.cell?, h']
theorem RwC.c2 (H : RwC w b h n sv rv rows t f x) : w.cell? ⟨b, 2, none⟩ = some (.int .i64 h.h) := by have h' : w.heap[b]? = _ := H; simp [World.cell?, h']
theorem RwC.c3 (H : RwC w b h n sv rv rows t f x) : w.cell? ⟨b, 3, none⟩ = some (.int .i64 h.m) := by have h' : w.heap[b]? = _ := H; simp [World.cell?, h']
theorem RwC.c4 (H : RwC w b h n sv rv rows t f x) : w.cell? ⟨b, 4, none⟩ = some (.int .i64 n) := by have h' : w.heap[b]? = _ := H; simp [World.cell?, h']
theorem RwC.c5 (H : RwC w b h n sv rv rows t f x) : w.cell? ⟨b, 5, none⟩ = some (sv) := by have h' : w.heap[b]? = _ := H; simp [World.cell?, h']
theorem RwC.c6 (H : RwC w b h n sv rv rows t f x) : w.cell? ⟨b, 6, none⟩ = some (rv) := by have h' : w.heap[b]? = _ := H; simp [World.cell?, h']
theorem RwC.c7 (H : RwC w b h n sv rv rows t f x) : w.cell? ⟨b, 7, none⟩ = some (.int .i64 rows) := by have h' : w.heap[b]? = _ := H; simp [World.cell?, h']
theorem RwC.c8 (H : RwC w b h n sv rv rows t f x) : w.cell? ⟨b, 8, none⟩ = some (.int .i64 t) := by have h' : w.heap[b]? = _ := H; simp [World.cell?, h']
theorem RwC.c9 (H : RwC w b h n sv rv rows t f x) : w.cell? ⟨b, 9, none⟩ = some (.int .i64 f) := by have h' : w.heap[b]? = _ := H; simp [World.cell?, h']
theorem RwC.c10 (H : RwC w b h n sv rv rows t f x) : w.cell? ⟨b, 10, none⟩ = some (x) := by have h' : w.heap[b]? = _ := H; simp [World.cell?, h']
theorem RwC.put4 (H : RwC w b h n sv rv rows t f x) (y : Int) : RwC (w.setCell ⟨b, 4, none⟩ (.int .i64 y)) b h y sv rv rows t f x := by
  have h' : w.heap[b]? = _ := H
  simpa [RwC] using Go.heap_setCell_same w b 4 _ _ (.int .i64 y) h'
theorem RwC.put5 (H : RwC w b h n sv rv rows t f x) (y : Value) : RwC (w.setCell ⟨b, 5, none⟩ y) b h n y rv rows t f x := by
  have h' : w.heap[b]? = _ := H
  simpa [RwC] using Go.heap_setCell_same w b 5 _ _ y h'
theorem RwC.put6 (H : RwC w b h n sv rv rows t f x) (y : Value) : RwC (w.setCell ⟨b, 6, none⟩ y) b h n sv y rows t f x := by
  have h' : w.heap[b]? = _ := H
  simpa [RwC] using Go.heap_setCell_same w b 6 _ _ y h'
theorem RwC.put7 (H : RwC w b h n sv rv rows t f x) (y : Int) : RwC (w.setCell ⟨b, 7, none⟩ (.int .i64 y)) b h n sv rv y t f x := by
  have h' : w.heap[b]? = _ := H
  simpa [RwC] using Go.heap_setCell_same w b 7 _ _ (.int .i64 y) h'
theorem RwC.put8 (H : RwC w b h n sv rv rows t f x) (y : Int) : RwC (w.setCell ⟨b, 8, none⟩ (.int .i64 y)) b h n sv rv rows y f x := by
  have h' : w.heap[b]? = _ := H
  simpa [RwC] using Go.heap_setCell_same w b 8 _ _ (.int .i64 y) h'
theorem RwC.put9 (H : RwC w b h n sv rv rows t f x) (y : Int) : RwC (w.setCell ⟨b, 9, none⟩ (.int .i64 y)) b h n sv rv rows t y x := by
  have h' : w.heap[b]? = _ := H
  simpa [RwC] using Go.heap_setCell_same w b 9 _ _ (.int .i64 y) h'
theorem RwC.put10 (H : RwC w b h n sv rv rows t f x) (y : Value) : RwC (w.setCell ⟨b, 10, none⟩ y) b h n sv rv rows t f y := by
  have h' : w.heap[b]? = _ := H
  simpa [RwC] using Go.heap_setCell_same w b 10 _ _ y h'
end
theorem raw_cells (w : World) (h : Hd.H) (sv rv : Value) (n rows t f : Int) (x : Value) : RwC (w.alloc (.cells #[.int .i64 h.kd, .int .i64 h.w, .int .i64 h.h, .int .i64 h.m, .int .i64 n, sv, rv, .int .i64 rows, .int .i64 t, .int .i64 f, x] 254)) w.heap.size h n sv rv rows t f x := World.alloc_heap_new w _
structure RwT (W : World) (b : Nat) (h : Hd.H) (sv0 rv0 : Value) (n : Int) (sv rv : Value) (one row : List Int) (rows t : Int) (x : Value) (w : World) : Prop where
  c : RwC w b h n sv rv rows t 0 x
  s : w.ownsRow (b + 1) 3 1 sv one.length (ints one)
  r : w.ownsRow (b + 1) 55 1 rv row.length (pixs row)
  f : Sep (PlZ b sv0 rv0) W w
  ns : PlNew W sv0 sv
  nr : PlNew W rv0 rv
section
variable {W w : World} {b : Nat} {h : Hd.H} {sv0 rv0 : Value} {n : Int} {sv rv : Value} {one row : List Int} {rows t : Int} {x : Value}
theorem RwT.start (c : RwC w b h n sv rv rows t 0 x) (s : w.ownsRow (b + 1) 3 1 sv one.length (ints one)) (r : w.ownsRow (b + 1) 55 1 rv row.length (pixs row)) : RwT w b h sv rv n sv rv one row rows t x w :=
  ⟨c, s, r, .refl _ _, .inl rfl, .inl rfl⟩
theorem RwT.bls (T : RwT W b h sv0 rv0 n sv rv one row rows t x w) : ∀ k, sv.ownBlock = some k → b + 1 ≤ k := fun k hk => (T.s.lt k hk).1
theorem RwT.blr (T : RwT W b h sv0 rv0 n sv rv one row rows t x w) : ∀ k, rv.ownBlock = some k → b + 1 ≤ k := fun k hk => (T.r.lt k hk).1
theorem RwT.nes (T : RwT W b h sv0 rv0 n sv rv one row rows t x w) : some b ≠ sv.ownBlock := fun e => by have := T.bls b e.symm; omega
theorem RwT.ner (T : RwT W b h sv0 rv0 n sv rv one row rows t x w) : some b ≠ rv.ownBlock := fun e => by have := T.blr b e.symm; omega
theorem RwT.below (T : RwT W b h sv0 rv0 n sv rv one row rows t x w) {w' : World} (hb : Below w.heap.size w w') : RwT W b h sv0 rv0 n sv rv one row rows t x w' :=
  ⟨T.c.later hb, below_row T.s hb, below_row T.r hb, ⟨hb.os.trans T.f.os, hb.tape.trans T.f.tape, hb.output.trans T.f.output, Nat.le_trans T.f.size hb.size, fun k hk hz => (hb.block k (Nat.lt_of_lt_of_le hk T.f.size)).trans (T.f.block k hk hz)⟩, T.ns, T.nr⟩
theorem RwT.drew (T : RwT W b h sv0 rv0 n sv rv one row rows t x w) : RwT W b h sv0 rv0 n sv rv one row rows t x w.drew := ⟨T.c, T.s, T.r, T.f.trans (.drew _ _), T.ns, T.nr⟩
theorem RwT.set4 (T : RwT W b h sv0 rv0 n sv rv one row rows t x w) (y : Int) : RwT W b h sv0 rv0 y sv rv one row rows t x (w.setCell ⟨b, 4, none⟩ (.int .i64 y)) :=
  ⟨T.c.put4 y, set_ownsRow T.s (Nat.lt_succ_self b) _, set_ownsRow T.r (Nat.lt_succ_self b) _, T.f.trans (.setCell _ (.inl rfl) _), T.ns, T.nr⟩
theorem RwT.set7 (T : RwT W b h sv0 rv0 n sv rv one row rows t x w) (y : Int) : RwT W b h sv0 rv0 n sv rv one row y t x (w.setCell ⟨b, 7, none⟩ (.int .i64 y)) :=
  ⟨T.c.put7 y, set_ownsRow T.s (Nat.lt_succ_self b) _, set_ownsRow T.r (Nat.lt_succ_self b) _, T.f.trans (.setCell _ (.inl rfl) _), T.ns, T.nr⟩
theorem RwT.set8 (T : RwT W b h sv0 rv0 n sv rv one row rows t x w) (y : Int) : RwT W b h sv0 rv0 n sv rv one row rows y x (w.setCell ⟨b, 8, none⟩ (.int .i64 y)) :=
  ⟨T.c.put8 y, set_ownsRow T.s (Nat.lt_succ_self b) _, set_ownsRow T.r (Nat.lt_succ_self b) _, T.f.trans (.setCell _ (.inl rfl) _), T.ns, T.nr⟩
theorem RwT.free (T : RwT W b h sv0 rv0 n sv rv one row rows t x w) : RwT W b h sv0 rv0 n sv (.slice none 0 0) one [] rows t x (w.setCell ⟨b, 6, none⟩ (.slice none 0 0)) :=
  ⟨T.c.put6 _, set_ownsRow T.s (Nat.lt_succ_self b) _, World.ownsRow_nil _ _ _ _, T.f.trans (.setCell _ (.inl rfl) _), T.ns, .inr fun k hk => by cases hk⟩
theorem RwT.clear {a : Option Addr} {m c : Nat} (T : RwT W b h sv0 rv0 n (.slice a m c) rv one row rows t x w) (hm : one.length = m) : RwT W b h sv0 rv0 n (.slice a 0 c) rv [] row rows t x (w.setCell ⟨b, 5, none⟩ (.slice a 0 c)) := by
  have hs := T.s
  rw [hm] at hs
  refine ⟨T.c.put5 _, set_ownsRow (ownsRow_zero hs) (Nat.lt_succ_self b) _, set_ownsRow T.r (Nat.lt_succ_self b) _, T.f.trans (.setCell _ (.inl rfl) _), ?_, T.nr⟩
  have e : (Value.slice a 0 c).ownBlock = (Value.slice a m c).ownBlock := by cases a <;> rfl
  unfold PlNew; rw [e]; exact T.ns
theorem RwT.pushS (T : RwT W b h sv0 rv0 n sv rv one row rows t x w) (hte : 3 ≠ 55) (o : Obj) (y : Int) {w5 : World} {g cc : Nat}
    (hown : w5.ownsRow (b + 1) 3 1 (.slice (some ⟨g, 0, none⟩) (one.length + 1) cc) (one.length + 1) (ints one ++ [.int .i64 y])) (hgrow : (w.alloc o).grownBy w5 sv.ownBlock) (hat : sv.ownBlock = some g ∨ g = (w.alloc o).heap.size) :
    RwC w5 b h n sv rv rows t 0 x ∧ RwT W b h sv0 rv0 n (.slice (some ⟨g, 0, none⟩) (one.length + 1) cc) rv (one ++ [y]) row rows t x (w5.setCell ⟨b, 5, none⟩ (.slice (some ⟨g, 0, none⟩) (one.length + 1) cc)) := by
  have c5 := (T.c.alloc o).kept hgrow T.nes
  have r5 := (T.r.alloc o).kept hgrow (apart_rows (Ne.symm hte) T.r T.s)
  refine ⟨c5, c5.put5 _, ?_, set_ownsRow r5 (Nat.lt_succ_self b) _, ⟨hgrow.os.trans T.f.os, hgrow.tape.trans T.f.tape, hgrow.output.trans T.f.output, ?_, ?_⟩, new_at T.ns hat (by have := T.f.size; simp; omega), T.nr⟩
  · have := set_ownsRow hown (a := ⟨b, 5, none⟩) (Nat.lt_succ_self b) (.slice (some ⟨g, 0, none⟩) (one.length + 1) cc)
    unfold ints at this ⊢
    rw [List.length_append, List.map_append]; exact this
  · have h1 := T.f.size; have h2 := hgrow.size; simp at h2 ⊢; omega
  · intro k hk hz
    have h1 := T.f.size
    rw [Below.heap_setCell _ _ _ _ (fun e => hz (.inl e)), hgrow.block k (by simp; omega) (fun e => hz (.inr (.inl (zone_of (b := b) (z := rv) T.ns e.symm hk))))]
    rw [Below.heap_alloc _ _ _ (by omega)]
    exact T.f.block k hk hz
theorem RwT.pushR (T : RwT W b h sv0 rv0 n sv rv one row rows t x w) (hte : 3 ≠ 55) (o : Obj) (y : Int) {w5 : World} {g cc : Nat}
    (hown : w5.ownsRow (b + 1) 55 1 (.slice (some ⟨g, 0, none⟩) (row.length + 1) cc) (row.length + 1) (pixs row ++ [.int .u64 y])) (hgrow : (w.alloc o).grownBy w5 rv.ownBlock) (hat : rv.ownBlock = some g ∨ g = (w.alloc o).heap.size) :
    RwC w5 b h n sv rv rows t 0 x ∧ RwT W b h sv0 rv0 n sv (.slice (some ⟨g, 0, none⟩) (row.length + 1) cc) one (row ++ [y]) rows t x (w5.setCell ⟨b, 6, none⟩ (.slice (some ⟨g, 0, none⟩) (row.length + 1) cc)) := by
  have c5 := (T.c.alloc o).kept hgrow T.ner
  have s5 := (T.s.alloc o).kept hgrow (apart_rows hte T.s T.r)
  refine ⟨c5, c5.put6 _, set_ownsRow s5 (Nat.lt_succ_self b) _, ?_, ⟨hgrow.os.trans T.f.os, hgrow.tape.trans T.f.tape, hgrow.output.trans T.f.output, ?_, ?_⟩, T.ns, new_at T.nr hat (by have := T.f.size; simp; omega)⟩
  · have := set_ownsRow hown (a := ⟨b, 6, none⟩) (Nat.lt_succ_self b) (.slice (some ⟨g, 0, none⟩) (row.length + 1) cc)
    unfold pixs at this ⊢
    rw [List.length_append, List.map_append]; exact this
  · have h1 := T.f.size; have h2 := hgrow.size; simp at h2 ⊢; omega
  · intro k hk hz
    have h1 := T.f.size
    rw [Below.heap_setCell _ _ _ _ (fun e => hz (.inl e)), hgrow.block k (by simp; omega) (fun e => hz (.inr (.inr (zone_of (b := b) (z := rv) T.nr e.symm hk))))]
    rw [Below.heap_alloc _ _ _ (by omega)]
    exact T.f.block k hk hz
end
def rwE (b : Nat) : Value := .func (.func 175) #[.pointer (some ⟨b, 0, none⟩)] #[]
def rwH (b : Nat) : Value := .func (.func 176) #[.pointer (some ⟨b, 0, none⟩)] #[]
def rwL (b : Nat) : Value := .func (.func 177) #[.pointer (some ⟨b, 0, none⟩)] #[]
theorem enRE : ∀ args w, (callFunc 175 args).run Tryz.prog w = .ok (.enter 175 args) w := enters_of Tryz.func175 (by kernel_rfl) rfl
theorem enRH : ∀ args w, (callFunc 176 args).run Tryz.prog w = .ok (.enter 176 args) w := enters_of Tryz.func176 (by kernel_rfl) rfl
theorem enRL : ∀ args w, (callFunc 177 args).run Tryz.prog w = .ok (.enter 177 args) w := enters_of Tryz.func177 (by kernel_rfl) rfl
section
variable (w : World) (b : Nat) (h : Hd.H) (n : Int) (sv rv : Value) (rows t f : Int) (x : Value) (H : RwC w b h n sv rv rows t f x)
include H
theorem rwError_any :
    Calls Tryz.prog 138 #[.pointer (some ⟨b, 0, none⟩)] w fun e w' => e = .returned (.int .i64 f) ∧ w = w' := by
  have hc9 := H.c9
  go_enter Tryz.func138, Tryz.ntmps138
  go_wp2
  go_ret
  exact ⟨rfl, rfl⟩
set_option maxHeartbeats 1000000 in
theorem rwStatus_any :
    Calls Tryz.prog 178 #[.pointer (some ⟨b, 0, none⟩)] w fun e w' => e = .returned (.int .i64 (if f ≠ 0 then 2 else if t = 0 then 1 else 0)) ∧ w = w' := by
  have hc8 := H.c8
  have hc9 := H.c9
  by_cases hf : f = 0
  · have k1 : (f != 0) = false := by simpa using hf
    rw [if_neg (by simpa using hf)]
    by_cases ht : t = 0
    · have k2 : (t == 0) = true := by simpa using ht
      rw [if_pos ht]
      clear hf ht
      go_enter Tryz.func178, Tryz.ntmps178
      go_wp2
      go_returns
      exact ⟨rfl, rfl⟩
    · have k2 : (t == 0) = false := by simpa using ht
      rw [if_neg ht]
      clear hf ht
      go_enter Tryz.func178, Tryz.ntmps178
      go_wp2
      go_returns
      exact ⟨rfl, rfl⟩
  · have k1 : (f != 0) = true := by simpa using hf
    rw [if_pos hf]
    clear hf
    go_enter Tryz.func178, Tryz.ntmps178
    go_wp2
    go_returns
    exact ⟨rfl, rfl⟩
set_option maxHeartbeats 1000000 in
theorem rwHigh_any (c : Int) (c0 : 0 ≤ c) (c1 : c ≤ 255) :
    Calls Tryz.prog 176 #[.pointer (some ⟨b, 0, none⟩), .int .u8 c] w fun e w' => e = .returned (.slice none 0 0) ∧ RwC w' b h (c * 256) sv rv rows t f (rwL b) ∧ w.grownBy w' (some b) := by
  have f4 := H.fr 4
  have f10 := H.fr 10
  have c4 := H.c4
  have c10 := H.c10
  have e2 : wrap64 (c * 256) = c * 256 := by rw [IntWalk.wrap64_in] <;> omega
  go_enter Tryz.func176, Tryz.ntmps176
  go_wp2
  go_ret
  exact ⟨rfl, (H.put4 _).put10 _, (grown_set _ _ _ _).trans (grown_set _ _ _ _)⟩
end
end Go.Proofs.YtkjkepnailamnaaGreat
namespace Go.Proofs.YtkjkepnailamnaaGreat
open Go.RowKit
set_option linter.unusedVariables false
theorem Rw.own_pos {w : World} {base n : Nat} {e : TypeId} {v : Value} {xs : List Value} (h : w.ownsRow base e 1 v (n + 1) xs) : ∃ g c, v = .slice (some ⟨g, 0, none⟩) (n + 1) c := by
  rcases h.2 with ⟨_, he⟩ | ⟨g, cap, cur, rfl, _⟩
  · omega
  · exact ⟨g, cap, rfl⟩
section
variable {W w w' : World} {b : Nat} {h : Hd.H} {sv0 rv0 : Value} {n : Int} {sv rv : Value} {one row : List Int} {rows t : Int} {x : Value}
theorem RwT.clearR {a : Option Addr} {m c : Nat} (T : RwT W b h sv0 rv0 n sv (.slice a m c) one row rows t x w) (hm : row.length = m) : RwT W b h sv0 rv0 n sv (.slice a 0 c) one [] rows t x (w.setCell ⟨b, 6, none⟩ (.slice a 0 c)) := by
  have hs := T.r
  rw [hm] at hs
  refine ⟨T.c.put6 _, set_ownsRow T.s (Nat.lt_succ_self b) _, set_ownsRow (ownsRow_zero hs) (Nat.lt_succ_self b) _, T.f.trans (.setCell _ (.inl rfl) _), T.ns, ?_⟩
  have e : (Value.slice a 0 c).ownBlock = (Value.slice a m c).ownBlock := by cases a <;> rfl
  unfold PlNew; rw [e]; exact T.nr
theorem RwT.drewN (T : RwT W b h sv0 rv0 n sv rv one row rows t x w) (k : Nat) : RwT W b h sv0 rv0 n sv rv one row rows t x (w.drewN k) := ⟨T.c.drewN k, T.s, T.r, T.f.trans (.drewN _ _ _), T.ns, T.nr⟩
theorem RwT.set10 (T : RwT W b h sv0 rv0 n sv rv one row rows t x w) (y : Value) : RwT W b h sv0 rv0 n sv rv one row rows t y (w.setCell ⟨b, 10, none⟩ y) :=
  ⟨T.c.put10 y, set_ownsRow T.s (Nat.lt_succ_self b) _, set_ownsRow T.r (Nat.lt_succ_self b) _, T.f.trans (.setCell _ (.inl rfl) _), T.ns, T.nr⟩
theorem RwT.base {W0 : World} (T : RwT W b h sv0 rv0 n sv rv one row rows t x w) (hs : Sep (PlZ b sv0 rv0) W0 W) : RwT W0 b h sv0 rv0 n sv rv one row rows t x w :=
  ⟨T.c, T.s, T.r, hs.trans T.f, T.ns.imp_right fun hk i hi => Nat.le_trans hs.size (hk i hi), T.nr.imp_right fun hk i hi => Nat.le_trans hs.size (hk i hi)⟩
end
def RwTake (W : World) (b : Nat) (h : Hd.H) (sv0 rv0 : Value) (n : Int) (sv : Value) (one : List Int) (x : Value) (t : Int) (row : List Int) (rows : Int) (out : List Int) (e : Ending) (w' : World) : Prop :=
  ∃ a c rv, e = .returned (.slice a out.length c) ∧ RwT W b h sv0 rv0 n sv rv one row rows t x w' ∧ SlK .u64 w' a out.length out
set_option maxRecDepth 100000 in
set_option maxHeartbeats 2000000 in
theorem rwAdd_any {W w : World} {b : Nat} {h : Hd.H} {sv0 rv0 : Value} {n : Int} {sv rv : Value} {one row : List Int} {rows t : Int} {x : Value} (T : RwT W b h sv0 rv0 n sv rv one row rows t x w) (hr4 : row.length ≤ 4096) (a : Option Addr) (m c : Nat) (l : List Int) (hm : m ≤ 8) (hs : Pq.Sl w a m l) :
    Calls Tryz.prog 195 #[.pointer (some ⟨b, 0, none⟩), .slice a m c] w fun e w' => e = .returned (.tuple #[]) ∧ ∃ rv', RwT W b h sv0 rv0 n sv rv' one (row ++ [Rw.pk l]) rows t x w' := by
  obtain ⟨p0, pi, pz0, pz1, pz2⟩ : ∃ i, Tryz.prog.info? 55 = some i ∧ i.zero = some (.int .u64 0) ∧ i.size = 1 ∧ i.bytes = 8 := (by have h := Tryz.info_px8; cases hh : Tryz.prog.info? 55 with | none => rw [hh] at h; cases h | some i => rw [hh] at h; simp at h; exact ⟨i, rfl, h.1, h.2.1, h.2.2⟩)
  have hte : 3 ≠ 55 := by decide
  have HPK := Lib.hid (Pq.pack_any a m c l w (by omega) hs)
  obtain ⟨p, hp⟩ : ∃ p, Pq.Px.packV l = p := ⟨_, rfl⟩
  rw [hp] at HPK
  have HP : Hid (Rw.pk l = p.1) := Lib.hid (by unfold Rw.pk; rw [hp])
  have HT := Lib.hid T
  have hc6 := T.c.c6
  obtain ⟨k, hk⟩ : ∃ k, row.length = k := ⟨_, rfl⟩
  have HK := Lib.hid hk
  have HR : Hid (w.ownsRow (b + 1) 55 1 rv k (pixs row)) := by show w.ownsRow _ _ _ _ _ _; have := T.r; rw [hk] at this; exact this
  have hbw : b + 1 ≤ w.heap.size := T.c.lt
  have hk3 : k ≤ 4096 := by omega
  have hblt : b < w.heap.size := hbw
  have hbne : ¬ b = w.heap.size := Nat.ne_of_lt hblt
  clear hs hp hk hr4 T
  go_enter Tryz.func195, Tryz.ntmps195
  go_wp2_with (first | (go_at_call 190; refine HPK.out.mono ?_; rintro e w9 ⟨rfl, rfl⟩) | (at_builtin; refine Rw.wpList_app1 rfl _ _ 30 rfl (b + 1) 55 p0 (.int .u64 0) 8 Tryz.underlying30 pi pz0 rfl pz1 pz2 rv k (pixs row) rfl (HR.out.alloc _) w.heap.size (.int .u64 p.1) rfl rfl (by rw [World.cell?_alloc_at _ _ _ _ rfl]; rfl) (by unfold maxLen; omega) (by omega) (by simp; omega) ?_; intro v5 w5 hown hgrow hat; obtain ⟨g, cc, rfl⟩ := Rw.own_pos hown; obtain ⟨q1, q2⟩ := HT.out.pushR hte _ p.1 (by have h := hown; rw [HK.out]; exact h) hgrow (by rcases hat with e | e; exact .inl e.symm; exact .inr (by injection e)); have hd6 := q1.c6; have hf6 := q1.fr 6; have Q2 := Lib.hid q2; clear q1 q2 hown hgrow hat))
  go_end0
  refine ⟨rfl, .slice (some ⟨g, 0, none⟩) (k + 1) cc, ?_⟩
  have h := Q2.out
  rw [← HP.out, HK.out] at h
  exact h
set_option maxRecDepth 100000 in
set_option maxHeartbeats 2000000 in
theorem rwTake_no {W w : World} {b : Nat} {h : Hd.H} {sv0 rv0 : Value} {n : Int} {sv rv : Value} {one row : List Int} {rows t : Int} {x : Value} (T : RwT W b h sv0 rv0 n sv rv one row rows t x w) (hw : (row.length : Int) < h.w) :
    Calls Tryz.prog 196 #[.pointer (some ⟨b, 0, none⟩)] w (RwTake W b h sv0 rv0 n sv one x t row rows []) := by
  have HT := Lib.hid T
  have hc1 := T.c.c1
  obtain ⟨k, hk⟩ : ∃ k, row.length = k := ⟨_, rfl⟩
  rw [hk] at hw
  obtain ⟨a, c, rfl, _⟩ := Rw.slk_row T.r rfl
  have hc6 := T.c.c6
  rw [hk] at hc6 HT
  clear T hk
  go_enter Tryz.func196, Tryz.ntmps196
  go_wp2_with (go_quiet (fail))
  go_returns
  exact ⟨none, 0, _, rfl, HT.out.drewN _, Rw.slk_nil⟩
set_option maxRecDepth 100000 in
set_option maxHeartbeats 4000000 in
theorem rwTake_yes {W w : World} {b : Nat} {h : Hd.H} {sv0 rv0 : Value} {n : Int} {sv rv : Value} {one row : List Int} {rows t : Int} {x : Value} (T : RwT W b h sv0 rv0 n sv rv one row rows t x w) (hw : ¬ (row.length : Int) < h.w) (hw1 : 1 ≤ h.w) (hr4 : row.length ≤ 4096) (rows0 : 0 ≤ rows) (rows1 : rows ≤ 65536) :
    Calls Tryz.prog 196 #[.pointer (some ⟨b, 0, none⟩)] w (RwTake W b h sv0 rv0 n sv one x t [] (rows + 1) row) := by
  have HT := Lib.hid T
  have hc1 := T.c.c1
  obtain ⟨k, hk⟩ : ∃ k, row.length = k := ⟨_, rfl⟩
  rw [hk] at hw
  obtain ⟨a, c, rfl, hsl⟩ := Rw.slk_row T.r rfl
  obtain ⟨ad, rfl, hsrc⟩ := Rw.slk_src hsl (by omega)
  have hc6 := T.c.c6
  have hbw : b < w.heap.size := T.c.lt
  have hbne : ¬ b = w.heap.size := Nat.ne_of_lt hbw
  have hmk := run_make_row' (P := Tryz.prog) 30 55 (.int .u64 0) 8 Tryz.underlying30 Tryz.info_px8 rfl .i64 .i64 k (by omega) (by omega)
  rw [Rw.made_noughts] at hmk
  obtain ⟨cs, hcs⟩ : ∃ cs, ((List.replicate k (0 : Int)).map (Value.int .u64)).toArray = cs := ⟨_, rfl⟩
  rw [hcs] at hmk
  have HCS := Lib.hid hcs
  have m6 := cell_later (box1' w (.cells cs 55)) hc6
  rw [hk] at hc6 HT m6
  have HK := Lib.hid hk
  have HSRC := Lib.hid hsrc
  have e9 : wrap64 (rows + 1) = rows + 1 := by rw [IntWalk.wrap64_in] <;> omega
  have hk4 : k ≤ 4096 := by omega
  clear T hk hcs hsl hsrc hr4 rows0 rows1
  go_enter Tryz.func196, Tryz.ntmps196
  go_upto_region 3 with (go_quiet (fail))
  generalize hW : w.drewN nq = w1
  have HT1 : Hid (RwT W b h sv0 rv0 n sv (.slice (some ad) k c) one row rows t x w1) := by show RwT _ _ _ _ _ _ _ _ _ _ _ _ _ _; rw [← hW]; exact HT.out.drewN _
  have HSRC1 : Hid (∀ j v, (row.map (Value.int .u64))[j]? = some v → w1.cell? (ad.add j) = some v) := Lib.hid (by rw [← hW]; exact HSRC.out)
  clear hW HT HSRC hc6 hc1 m6
  have T1 := HT1.out
  have hbw : b < w1.heap.size := T1.c.lt
  have hbne : ¬ b = w1.heap.size := Nat.ne_of_lt hbw
  have B1 := box1' w1 (.cells cs 55)
  have hc6 := T1.c.c6
  have m6 := cell_later B1 hc6
  have HO : Hid (Rw.OwnG w1.heap.size (w1.alloc (.cells cs 55)) w1.heap.size (List.replicate k 0)) := Lib.hid ⟨Nat.le_refl _, by rw [HCS.out]; exact World.alloc_heap_new _ _⟩
  have HTB := Lib.hid (T1.below B1)
  have HB1 := Lib.hid B1
  have HKM : Hid ((row.map (Value.int .u64)).length = k) := Lib.hid (by rw [List.length_map]; exact HK.out)
  clear T1 B1
  go_upto_region 5 with ((with_reducible show wpList _ _ _ ({ dst := _, op := .call { callee := .builtin .copy, args := _, argTypes := _ }, type := _, pos := _, after := _, guard := _ } :: _) _ _); refine Rw.wpList_copy_row rfl (.tmp 21) (.tmp 25) 30 30 rfl 55 Tryz.underlying30 Rw.size_px w1.heap.size 0 k k ad k c rfl rfl _ _ HO.out.2 (row.map (Value.int .u64)) (by rw [HKM.out]; simp) (fun j v hv => cell_later HB1.out (HSRC1.out j v hv)) (by rw [HKM.out, List.length_map, List.length_replicate]; omega) (Rw.one_px _) ?_; intro v9)
  generalize hW : (w1.alloc (.cells cs 55)).setRow w1.heap.size (splice ((List.replicate k (0 : Int)).map (Value.int .u64)) 0 (row.map (Value.int .u64))).toArray = w2
  have HB2 : Hid (Below w1.heap.size w1 w2) := by show Below _ _ _; rw [← hW]; exact below_setRow HB1.out (Nat.le_refl _) _
  have HO2 : Hid (Rw.OwnG w1.heap.size w2 w1.heap.size row) := by
    show Rw.OwnG _ _ _ _
    have h := Rw.ownG_row HO.out 0 row
    rw [hW] at h
    have e : splice (List.replicate k (0 : Int)) 0 row = row := by unfold splice; have h9 := HK.out; simp [h9]
    rw [e] at h; exact h
  clear hW HO HTB HSRC1 HB1 m6 hc6 hmk
  have HT2 := Lib.hid (HT1.out.below HB2.out)
  have g6 := HT2.out.c.c6
  have g7 := HT2.out.c.c7
  have f6 := HT2.out.c.fr 6
  have f7 := HT2.out.c.fr 7
  have hb2 : ¬ w1.heap.size = b := fun e => hbne e.symm
  go_wp2_with fail
  go_returns
  refine ⟨some ⟨w1.heap.size, 0, none⟩, k, _, by rw [HK.out]; rfl, (HT2.out.clearR HK.out).set7 _, ?_⟩
  have h := HO2.out.2
  exact Rw.OwnG.sl (base := 0) ⟨Nat.zero_le _, Rw.heapSet _ _ _ (Rw.heapSet _ _ _ h hb2) hb2⟩
end Go.Proofs.YtkjkepnailamnaaGreat
namespace Go.Proofs.YtkjkepnailamnaaGreat
open Go.RowKit
set_option linter.unusedVariables false
theorem Rw.quot {h : Hd.H} (H : Rw.May h) : Int.tdiv (Hj.size h) h.h = (Rw.stride h : Int) := by
  have hm := H.m
  rw [Rw.size_eq H, Int.mul_tdiv_cancel_left _ (by omega)]
end Go.Proofs.YtkjkepnailamnaaGreat
namespace Go.Proofs.YtkjkepnailamnaaGreat
open Go.RowKit
set_option linter.unusedVariables false
namespace Pl
def readF : S → Nat → List Int → List Int → List Int × Int × Int
  | s, i, acc, [] => if (fin s).1.last = 2 then ([], 0, (fin s).1.e) else (acc ++ (fin s).2, (i : Int), 0)
  | s, i, acc, c :: cs =>
    if (put s c).1.last = 1 then (acc ++ (put s c).2, (i : Int) + 1, 0)
    else if (put s c).1.last = 2 then ([], 0, (put s c).1.e)
    else readF (put s c).1 (i + 1) (acc ++ (put s c).2) cs
def readV (h : Hd.H) (x : List Int) : List Int × Int × Int := if May h then readF (new h) 0 [] x else ([], 0, 1)
theorem readF_over {s : S} {q : S × List Int} {i : Nat} {acc : List Int} {c : Int} {cs : List Int} (hq : put s c = q) (h : q.1.last = 1) : readF s i acc (c :: cs) = (acc ++ q.2, (i : Int) + 1, 0) := by rw [readF, hq, if_pos h]
theorem readF_wrong {s : S} {q : S × List Int} {i : Nat} {acc : List Int} {c : Int} {cs : List Int} (hq : put s c = q) (h : q.1.last = 2) : readF s i acc (c :: cs) = ([], 0, q.1.e) := by rw [readF, hq, if_neg (by omega), if_pos h]
theorem readF_more {s : S} {q : S × List Int} {i : Nat} {acc : List Int} {c : Int} {cs : List Int} (hq : put s c = q) (h : q.1.last = 0) : readF s i acc (c :: cs) = readF q.1 (i + 1) (acc ++ q.2) cs := by rw [readF, hq, if_neg (by omega), if_neg (by omega)]
theorem readF_nil {s : S} {q : S × List Int} {i : Nat} {acc : List Int} (hq : fin s = q) : readF s i acc [] = if q.1.last = 2 then ([], 0, q.1.e) else (acc ++ q.2, (i : Int), 0) := by rw [readF, hq]
theorem sample_grow (s : S) (n : Int) : (sample s n).2.length + (sample s n).1.row.length ≤ s.row.length + 1 := by
  unfold sample
  split
  · simp [more]
  · split <;> simp [pixel, line]
theorem put_grow (s : S) (c : Int) : (put s c).2.length + (put s c).1.row.length ≤ s.row.length + 1 := by
  unfold put
  split
  · simp
  split
  · split
    · exact sample_grow s _
    · simp
  split
  · split
    · exact sample_grow s _
    · simp [wrong]
  split
  · simp [digit]
  · simp [wrong]
theorem fin_grow (s : S) : (fin s).2.length ≤ s.row.length + 1 := by
  have := put_grow s 32
  unfold fin
  split
  · show (put s 32).2.length ≤ _; omega
  · omega
theorem fin_last {s : S} (hG : Good s) : (fin s).1.last = 1 ∨ (fin s).1.last = 2 := by
  have hg := (good_put hG 32).last
  unfold fin
  split
  · exact .inr rfl
  · omega
end Pl
def Ap (v : Value) (b : Nat) (sv rv : Value) : Prop := ∀ k, v.ownBlock = some k → ¬ PlZ b sv rv k
theorem ap_nil (b : Nat) (sv rv : Value) : Ap (.slice none 0 0) b sv rv := fun k hk => by cases hk
theorem Ap.ne {v : Value} {b : Nat} {sv rv : Value} (h : Ap v b sv rv) : some b ≠ v.ownBlock := fun e => h b e.symm (.inl rfl)
theorem Ap.s {v : Value} {b : Nat} {sv rv : Value} (h : Ap v b sv rv) : sv.ownBlock = none ∨ sv.ownBlock ≠ v.ownBlock := by
  cases hv : sv.ownBlock with
  | none => exact .inl rfl
  | some k => right; intro e; exact h k e.symm (.inr (.inl hv))
theorem Ap.r {v : Value} {b : Nat} {sv rv : Value} (h : Ap v b sv rv) : rv.ownBlock = none ∨ rv.ownBlock ≠ v.ownBlock := by
  cases hv : rv.ownBlock with
  | none => exact .inl rfl
  | some k => right; intro e; exact h k e.symm (.inr (.inr hv))
theorem row_sep {w w2 : World} {b : Nat} {sv rv v : Value} {base k : Nat} {e : TypeId} {xs : List Value} (hr : w.ownsRow base e 1 v k xs) (hs : Sep (PlZ b sv rv) w w2) (ha : Ap v b sv rv) : w2.ownsRow base e 1 v k xs := by
  refine ⟨hr.1, ?_⟩
  rcases hr.2 with h | ⟨g, cap, cur, rfl, hb, hg, r⟩
  · exact .inl h
  · exact .inr ⟨g, cap, cur, rfl, hb, (hs.block g (Array.getElem?_eq_some_iff.1 hg).1 (ha g rfl)).trans hg, r⟩
theorem ap_put {w : World} {b base k : Nat} {sv rv sv' rv' v : Value} {e : TypeId} {xs : List Value} (hr : w.ownsRow base e 1 v k xs) (ha : Ap v b sv rv) (hs : PlNew w sv sv') (hn : PlNew w rv rv') : Ap v b sv' rv' := by
  intro j hj hz
  have hlt := (hr.lt j hj).2
  have hnz := ha j hj
  rcases hz with rfl | hz | hz
  · exact hnz (.inl rfl)
  · rcases hs with h | h
    · exact hnz (.inr (.inl (by rw [← h]; exact hz)))
    · have := h j hz; omega
  · rcases hn with h | h
    · exact hnz (.inr (.inr (by rw [← h]; exact hz)))
    · have := h j hz; omega
theorem PlX.lt {w : World} {b : Nat} {sv rv : Value} {s : Pl.S} (X : PlX w b sv rv s) : b < w.heap.size := by obtain ⟨n, x, hC, _⟩ := X.ex; exact hC.lt
theorem PlX.kept {w w' : World} {b : Nat} {sv rv v : Value} {s : Pl.S} (X : PlX w b sv rv s) (ha : Ap v b sv rv) (hg : w.grownBy w' v.ownBlock) : PlX w' b sv rv s := by
  obtain ⟨n, x, hC, hx⟩ := X.ex
  refine ⟨X.g, z_up X.z hg.size, n, x, hC.kept hg ha.ne, fun h0 => ?_⟩
  obtain ⟨e1, e2, h1, h2⟩ := hx h0
  exact ⟨e1, e2, h1.kept hg ha.s, h2.kept hg ha.r⟩
theorem PlX.later {w w' : World} {b : Nat} {sv rv : Value} {s : Pl.S} (X : PlX w b sv rv s) (hb : Below w.heap.size w w') : PlX w' b sv rv s := by
  obtain ⟨n, x, hC, hx⟩ := X.ex
  refine ⟨X.g, z_up X.z hb.size, n, x, hC.later hb, fun h0 => ?_⟩
  obtain ⟨e1, e2, h1, h2⟩ := hx h0
  exact ⟨e1, e2, below_row h1 hb, below_row h2 hb⟩
theorem ap_app {w : World} {b : Nat} {sv rv v v' : Value} {s : Pl.S} (X : PlX w b sv rv s) (ha : Ap v b sv rv) (hat : v'.ownBlock = v.ownBlock ∨ v'.ownBlock = some w.heap.size) : Ap v' b sv rv := by
  intro k hk hz
  rcases hat with h | h
  · exact ha k (by rw [← h]; exact hk) hz
  · rw [h] at hk; cases hk
    have := (X.z _ hz).2; omega
theorem plError_x {w : World} {b : Nat} {sv rv : Value} {s : Pl.S} (X : PlX w b sv rv s) :
    Calls Tryz.prog 135 #[.pointer (some ⟨b, 0, none⟩)] w fun e w' => e = .returned (.int .i64 s.e) ∧ w = w' := by
  obtain ⟨n, x, hC, _⟩ := X.ex
  exact plError_any w b s.h n sv rv s.rows s.last s.e x hC
theorem slk_row {w : World} {base k : Nat} {v : Value} {l : List Int} (hr : w.ownsRow base 55 1 v k (pixs l)) (hk : l.length = k) :
    ∃ a c, v = .slice a k c ∧ SlK .u64 w a k l := by
  rcases hr.2 with ⟨rfl, rfl⟩ | ⟨g, cap, cur, rfl, hb, hg, hle, hm, hs, ht⟩
  · exact ⟨none, 0, rfl, hk, .inl rfl⟩
  · exact ⟨_, cap, rfl, slk_of_row (c := cap) hr hk⟩
def RdR (t : List Int × Int × Int) (w : World) (e : Ending) (w' : World) : Prop :=
  ∃ a c, e = .returned (.tuple #[.slice a t.1.length c, .int .i64 t.2.1, .int .i64 t.2.2]) ∧ SlK .u64 w' a t.1.length t.1 ∧ Below w.heap.size w w'
theorem rdr_nil {t : List Int × Int × Int} {e1 e2 : Int} (ht : t = ([], e1, e2)) {w w' : World} (hB : Below w.heap.size w w') : RdR t w (.returned (.tuple #[.slice none 0 0, .int .i64 e1, .int .i64 e2])) w' :=
  ⟨none, 0, by rw [ht]; rfl, by rw [ht]; exact slk_nil, hB⟩
theorem rdr_row {t : List Int × Int × Int} {l : List Int} {e1 e2 x : Int} (ht : t = (l, e1, e2)) (hx : x = e1) {w w' : World} {base k : Nat} {v : Value} (hr : w'.ownsRow base 55 1 v k (pixs l)) (hk : l.length = k) (hB : Below w.heap.size w w') : RdR t w (.returned (.tuple #[v, .int .i64 x, .int .i64 e2])) w' := by
  obtain ⟨a, c, rfl, hs⟩ := slk_row hr hk
  subst hk; subst hx
  exact ⟨a, c, by rw [ht], by rw [ht]; exact hs, hB⟩
end Go.Proofs.YtkjkepnailamnaaGreat
namespace Go.Proofs.YtkjkepnailamnaaGreat
open Go.RowKit
set_option linter.unusedVariables false
theorem Rw.min_w {k W : Int} (h : k < W) (k0 : 0 ≤ k) (hW : W ≤ 4096) : ∃ v : Nat, min 8 (W - k) = (v : Int) ∧ 1 ≤ v ∧ v ≤ 8 ∧ ((v : Int) ≤ W - k) ∧ (v = 8 ∨ (v : Int) = W - k) := ⟨(min 8 (W - k)).toNat, by omega, by omega, by omega, by omega, by omega⟩
theorem Rw.bits1 (c : Int) {v : Nat} (h1 : 1 ≤ v) (h2 : v ≤ 8) : Bt.unpackV [c] (v : Int) = (Bt.eight c).take v ∧ Bt.rowE 1 (v : Int) = 0 := by
  have e : Bt.rowE 1 (v : Int) = 0 := by
    have hb : Bt.bytesV (v : Int) = 1 := by unfold Bt.bytesV; rw [if_neg (by omega)]; omega
    unfold Bt.rowE; rw [hb]; decide
  refine ⟨?_, e⟩
  unfold Bt.unpackV
  rw [show [c].length = 1 from rfl, if_pos e]
  simp [Bt.bitsOf]
theorem Rw.one_slk (w : World) (q : IntKind) (x : Int) (t : TypeId) : SlK q (w.alloc (.cells #[.int q x] t)) (some ⟨w.heap.size, 0, none⟩) 1 [x] := by
  refine ⟨rfl, .inr ⟨w.heap.size, 0, rfl, fun i hi => ?_⟩⟩
  obtain rfl : i = 0 := by omega
  rw [World.cell?_alloc_at _ _ _ _ rfl]; rfl
theorem Rw.take_snoc (f : Int → Int) (row l : List Int) (i : Nat) (h : i < l.length) : row ++ (l.take i).map f ++ [f (l.getD i 0)] = row ++ (l.take (i + 1)).map f := by
  rw [List.append_assoc, List.take_succ_eq_append_getElem h, List.map_append, List.getD_eq_getElem?_getD, List.getElem?_eq_getElem h]; rfl
set_option maxRecDepth 100000 in
set_option maxHeartbeats 4000000 in
theorem rwEighth_any {w : World} {b : Nat} {h : Hd.H} {n : Int} {sv rv : Value} {one row : List Int} {rows t : Int} {x : Value} (T : RwT w b h sv rv n sv rv one row rows t x w) (hW : h.w ≤ 4096) (hr : (row.length : Int) < h.w) (c : Int) (c0 : 0 ≤ c) (c1 : c ≤ 255) (v : Nat) (hv : min 8 (h.w - row.length) = (v : Int)) (v1 : 1 ≤ v) (v8 : v ≤ 8)
    (row1 : List Int) (rows1 : Int) (out : List Int) (htk : ∀ w1 rv1, RwT w b h sv rv n sv rv1 one (row ++ ((Bt.eight c).take v).map (fun x => Rw.pk [x])) rows t x w1 → Calls Tryz.prog 196 #[.pointer (some ⟨b, 0, none⟩)] w1 (RwTake w b h sv rv n sv one x t row1 rows1 out)) :
    Calls Tryz.prog 175 #[.pointer (some ⟨b, 0, none⟩), .int .u8 c] w (RwTake w b h sv rv n sv one x t row1 rows1 out) := by
  have HT := Lib.hid T
  have HTK := Lib.hid htk
  have hc1 := T.c.c1
  obtain ⟨k, hk⟩ : ∃ k, row.length = k := ⟨_, rfl⟩
  obtain ⟨ra, rc, hrv, _⟩ := Rw.slk_row T.r rfl
  have hc6 : w.cell? ⟨b, 6, none⟩ = some (.slice ra k rc) := by rw [T.c.c6, hrv, hk]
  rw [hk] at hr hv
  have HK := Lib.hid hk
  have e1 : wrap64 (h.w - k) = h.w - k := by rw [IntWalk.wrap64_in] <;> omega
  clear T htk hk hrv
  go_enter Tryz.func175, Tryz.ntmps175
  obtain ⟨zs, hz⟩ : ∃ zs, (Bt.eight c).take v = zs := ⟨_, rfl⟩
  have hzl : zs.length = v := by rw [← hz, List.length_take, Bt.eight_len]; omega
  have HB1 := Lib.hid (Rw.bits1 c v1 v8)
  rw [hz] at HB1 HTK
  clear hz
  have HU : Hid (∀ W : World, Calls Tryz.prog 194 #[.slice (some ⟨W.heap.size, 0, none⟩) 1 1, .int .i64 (v : Int)] (W.alloc (.cells #[.int .u8 c] 5)) (fun e w' => ∃ ad cap, e = .returned (.tuple #[.slice ad v cap, .int .i64 0]) ∧ w'.ownsRow (W.alloc (.cells #[.int .u8 c] 5)).heap.size 3 1 (.slice ad v cap) v (ints zs) ∧ Below (W.alloc (.cells #[.int .u8 c] 5)).heap.size (W.alloc (.cells #[.int .u8 c] 5)) w')) := Lib.hid fun W => by
    have h := Bt.unpack_any (some ⟨W.heap.size, 0, none⟩) 1 1 [c] (v : Int) (W.alloc (.cells #[.int .u8 c] 5)) ⟨Rw.one_slk W .u8 c _, Nat.le_refl _, by omega, fun z hz => by rw [List.mem_singleton.1 hz]; exact ⟨c0, c1⟩⟩
    rw [HB1.out.1, HB1.out.2] at h
    unfold Bt.UnpR at h
    rw [hzl] at h
    exact h
  have HZL := Lib.hid hzl
  have HVV := Lib.hid hv
  have HVW := Lib.hid (show (v : Int) ≤ h.w - k by omega)
  clear c0 c1 hzl
  go_upto_region 1 with fail
  go_cut [5] from 10 to 21 (fun s5 wx => s5 = .int .i64 (v : Int) ∧ ∃ j, wx = w.drewN j)
  case first =>
    go_wp2_with (go_quiet (fail))
    all_goals
      go_meet
      case rel => refine ⟨?_, _, rfl⟩; first | (congr 1; done) | (congr 1; have := HVV.out; omega)
  case rest =>
    obtain ⟨rfl, j, hwj⟩ := hcut
    have HT1 : Hid (RwT w b h sv rv n sv rv one row rows t x wc) := by show RwT _ _ _ _ _ _ _ _ _ _ _ _ _ _; rw [hwj]; exact HT.out.drewN _
    have HW1 : Hid (Below w.heap.size w wc) := by show Below _ _ _; rw [hwj]; exact below_drewN (.refl _ _) _
    clear hwj hc1 hc6 HT HVV hv e1
    go_wp2_with (go_at_call 194; refine (HU.out _).mono ?_; rintro e w3 ⟨ad, cap, rfl, hown, hb3⟩; have HO3 := Lib.hid hown; have HB3 := Lib.hid hb3; clear hown hb3)
    have HB2 : Hid (Below wc.heap.size wc w3) := Lib.hid ((box1' wc _).trans (HB3.out.mono (by simp)))
    have HT3 : Hid (RwT w3 b h sv rv n sv rv one row rows t x w3) := Lib.hid (by have T3 := HT1.out.below HB2.out; exact .start T3.c T3.s T3.r)
    obtain ⟨ad', c', hv', hsl⟩ := sl_of_row (z := 0) rfl HO3.out HZL.out
    cases hv'
    rcases hsl.2 with h0 | ⟨g, o, rfl, hsc⟩
    · omega
    have HSC := Lib.hid hsc
    have HA : Hid (¬ PlZ b sv rv g) := by
      show ¬ _
      have hlt := (HO3.out.lt g rfl).1
      simp at hlt
      rintro (rfl | e | e)
      · have := HT1.out.c.lt; omega
      · have := (HT1.out.s.lt g e).2; omega
      · have := (HT1.out.r.lt g e).2; omega
    have HBASE : Hid (Sep (PlZ b sv rv) w w3) := Lib.hid (.bel (HW1.out.trans (HB2.out.mono HW1.out.size)))
    clear hsc hsl HO3 HB3 HU HT1 HB2
    go_loopw [31] (fun u31 wr => ∃ (i : Nat) (rv' : Value), i ≤ v ∧ u31 = .int .i64 i ∧ RwT w3 b h sv rv n sv rv' one (row ++ (zs.take i).map (fun x => Rw.pk [x])) rows t x wr) (fun u31 _ => v - (intOf u31).toNat)
    case atStart => exact ⟨0, rv, Nat.zero_le _, rfl, by simpa using HT3.out⟩
    case round =>
      obtain ⟨i, rv', hi, rfl, hT⟩ := hrel
      have HTi := Lib.hid hT
      by_cases hlt : i < v
      · have hcell := hT.f.cell (p := none) HA.out (HSC.out i hlt)
        have HLEN : Hid ((row ++ (zs.take i).map (fun x => Rw.pk [x])).length ≤ 4096) := Lib.hid (by have := HK.out; have := HZL.out; have := HVW.out; rw [List.length_append, List.length_map, List.length_take]; omega)
        have hii : (i : Int) + 1 ≤ 9223372036854775807 := by omega
        have e1 : wrap64 ((i : Int) + 1) = (i : Int) + 1 := by rw [IntWalk.wrap64_in] <;> omega
        clear hT
        go_wp2_with (go_at_call 195; refine (rwAdd_any (HTi.out.below (box1' _ _)) HLEN.out _ _ _ [zs.getD i 0] (by omega) (Rw.one_slk wr .i64 (zs.getD i 0) _)).mono ?_; rintro e w9 ⟨rfl, rv9, T9⟩; rw [Rw.take_snoc (fun x => Rw.pk [x]) row zs i (by rw [HZL.out]; exact hlt)] at T9; have HT9 := Lib.hid T9; clear T9)
        go_roundw
        case rel => exact ⟨i + 1, rv9, by omega, by go_num, HT9.out⟩
        case measure => simp [intOf]; omega
      · obtain rfl : i = v := by omega
        have HT9 : Hid (RwT w b h sv rv n sv rv' one (row ++ zs.map (fun x => Rw.pk [x])) rows t x wr) := Lib.hid (by have h9 := hT; rw [List.take_of_length_le (by rw [HZL.out]; omega)] at h9; exact h9.base HBASE.out)
        clear hT
        go_wp2_with (go_at_call 196; refine (HTK.out _ _ HT9.out).mono ?_; rintro e w10 ⟨a10, c10, rv10, rfl, T10, S10⟩)
        go_returns
        exact ⟨a10, c10, rv10, rfl, T10, S10⟩
end Go.Proofs.YtkjkepnailamnaaGreat
namespace Go.Proofs.YtkjkepnailamnaaGreat
open Go.RowKit
set_option linter.unusedVariables false
set_option maxRecDepth 100000 in
set_option maxHeartbeats 4000000 in
theorem plRead_any (s : ByteArray) (hsz : s.size ≤ 100000) (h : Hd.H) (hf : Hj.Fit h) (w : World) :
    Calls Tryz.prog 98 #[.string s, agH h] w (RdR (Pl.readV h (bytesOf s)) w) := by
  by_cases hm : Pl.May h
  · have HN := Lib.hid (plNew_yes h hf hm)
    obtain ⟨t0, ht0⟩ : ∃ t, Pl.readV h (bytesOf s) = t := ⟨_, rfl⟩
    have HV0 : Hid (t0 = Pl.readF (Pl.new h) 0 [] (bytesOf s)) := by show _ = _; rw [← ht0]; exact if_pos hm
    rw [ht0]
    obtain ⟨p0, pi, pz0, pz1, pz2⟩ : ∃ i, Tryz.prog.info? 55 = some i ∧ i.zero = some (.int .u64 0) ∧ i.size = 1 ∧ i.bytes = 8 := (by have h := Tryz.info_px8; cases hh : Tryz.prog.info? 55 with | none => rw [hh] at h; cases h | some i => rw [hh] at h; simp at h; exact ⟨i, rfl, h.1, h.2.1, h.2.2⟩)
    clear ht0 hf hm
    unfold agH at HN ⊢
    go_enter Tryz.func98, Tryz.ntmps98
    go_wp2_with fail
    refine (HN.out _).mono ?_
    rintro e w1 ⟨b, rfl, hwb, hX, hb1⟩
    have HX1 := Lib.hid hX
    have HB1 := Lib.hid (((Below.refl _ w).alloc (Nat.le_refl _) _).trans (hb1.mono (by simp)))
    have HWB : Hid (w.heap.size ≤ b) := Lib.hid (by simp at hwb; omega)
    clear hX hb1 hwb
    go_wp2_with fail
    go_loopw [9, 25] (fun u9 u25 wr => ∃ (i : Nat) (sv rv : Value) (st : Pl.S) (acc : List Int) (v : Value), i ≤ s.size ∧ u25 = .int .i64 i ∧ v = u9 ∧ PlX wr b sv rv st ∧ st.last = 0 ∧ wr.ownsRow w.heap.size 55 1 v acc.length (pixs acc) ∧ Ap v b sv rv ∧ acc.length + st.row.length ≤ i ∧ Below w.heap.size w wr ∧ t0 = Pl.readF st i acc ((bytesOf s).drop i)) (fun _ u25 _ => s.size - (intOf u25).toNat)
    case atStart => exact ⟨0, _, _, Pl.new h, [], _, Nat.zero_le _, rfl, rfl, HX1.out, rfl, World.ownsRow_nil _ _ _ _, ap_nil _ _ _, Nat.le_refl _, HB1.out, HV0.out⟩
    case round =>
      obtain ⟨i, sv, rv, st, acc, v, hi1, rfl, rfl, hX, h0, hrow, hap, hgr, hB, hV⟩ := hrel
      have HX := Lib.hid hX
      have HROW := Lib.hid hrow
      have HAP := Lib.hid hap
      have HB := Lib.hid hB
      have H0 := Lib.hid h0
      have HG := Lib.hid hX.g
      obtain ⟨n, hn⟩ : ∃ n, acc.length = n := ⟨_, rfl⟩
      have HNL := Lib.hid hn
      rw [hn] at hgr
      have HROW' : Hid (wr.ownsRow w.heap.size 55 1 v n (pixs acc)) := by show World.ownsRow _ _ _ _ _ _ _; have h := hrow; rw [hn] at h; exact h
      have hn9 : n ≤ 100000 := by omega
      have HGR := Lib.hid hgr
      clear hX hrow hap hB h0 hn
      have HPZ : Hid (∀ (q : Pl.S × List Int) (w2 : World) sv' rv', PlX w2 b sv' rv' q.1 → Sep (PlZ b sv rv) wr w2 → PlNew wr sv sv' → PlNew wr rv rv' → w2.ownsRow w.heap.size 55 1 v n (pixs acc) ∧ Ap v b sv' rv' ∧ Below w.heap.size w w2) := Lib.hid fun q w2 sv' rv' hX2 hS hN1 hN2 =>
        ⟨row_sep HROW'.out hS HAP.out, ap_put HROW'.out HAP.out hN1 hN2, HB.out.trans (hS.below HB.out.size (fun k hk hz => by have := (HX.out.z k hz).1; have := HWB.out; omega))⟩
      by_cases hlt : i < s.size
      · rw [bytesOf_drop s i hlt] at hV
        have c0 : (0 : Int) ≤ (s[i].toNat : Int) := by omega
        have c1 : (s[i].toNat : Int) ≤ 255 := by have := s[i].toNat_lt; omega
        have HP := plPut_any (s[i].toNat : Int) c0 c1 wr b sv rv HX.out
        have hg' := Pl.put_grow st (s[i].toNat : Int)
        have hG' := (Pl.good_put HG.out (s[i].toNat : Int)).last
        obtain ⟨q, hq⟩ : ∃ q, Pl.put st (s[i].toNat : Int) = q := ⟨_, rfl⟩
        rw [hq] at HP hg' hG'
        obtain ⟨m, hm⟩ : ∃ m, q.2.length = m := ⟨_, rfl⟩
        have hml : m ≤ 100001 := by omega
        have HQG := Lib.hid hg'
        have HML := Lib.hid hm
        by_cases h1 : q.1.last = 1
        · have HV2 : Hid (t0 = (acc ++ q.2, (i : Int) + 1, 0)) := by show _ = _; rw [hV, Pl.readF_over hq h1]
          unfold PlPutR at HP
          rw [h1, hm] at HP
          have HPC := Lib.hid HP
          have hii : (i : Int) + 1 ≤ 9223372036854775807 := by omega
          clear HP hg' hG' hq hm hV h1 hgr
          go_wp2_with (first | (at_builtin; refine wpList_app rfl _ _ 30 rfl w.heap.size 55 p0 .u64 8 Tryz.underlying30 pi pz0 pz1 pz2 v n (pixs acc) rfl HO2.out a m c q.2 rfl HS2.out (by unfold maxLen; omega) (by omega) HB2.out.size ?_; intro v3 w3 hown hgrow hat; have HO3 := Lib.hid hown; have HB3 := Lib.hid (HB2.out.grown hgrow HB2.out.size (fun j ej => (HO2.out.lt j ej).1)); clear hown hgrow hat) | (go_at_call 130; refine HPC.out.mono ?_; rintro e w2 ⟨a, c, sv', rv', rfl, hX2, hS2, _, hF2, hN1, hN2⟩; obtain ⟨z1, z2, z3⟩ := HPZ.out q w2 sv' rv' hX2 hF2 hN1 hN2; have HO2 := Lib.hid z1; have HB2 := Lib.hid z3; have HS2 := Lib.hid hS2; clear hX2 hS2 hF2 hN1 hN2 z1 z2 z3))
          go_returns
          exact rdr_row HV2.out rfl (by have h := HO3.out; unfold pixs; rw [List.map_append]; exact h) (by rw [List.length_append, HNL.out, HML.out]) HB3.out
        by_cases h2 : q.1.last = 2
        · have HV2 : Hid (t0 = ([], 0, q.1.e)) := by show _ = _; rw [hV, Pl.readF_wrong hq h2]
          unfold PlPutR at HP
          rw [h2, hm] at HP
          have HPC := Lib.hid HP
          clear HP hg' hG' hq hm hV h1 h2 hgr
          go_wp2_with (first | (at_builtin; refine wpList_app rfl _ _ 30 rfl w.heap.size 55 p0 .u64 8 Tryz.underlying30 pi pz0 pz1 pz2 v n (pixs acc) rfl HO2.out a m c q.2 rfl HS2.out (by unfold maxLen; omega) (by omega) HB2.out.size ?_; intro v3 w3 hown hgrow hat; have HB3 := Lib.hid (HB2.out.grown hgrow HB2.out.size (fun j ej => (HO2.out.lt j ej).1)); have HX3 := Lib.hid (HX2.out.kept HA2.out hgrow); clear hown hgrow hat) | (go_at_call 130; refine HPC.out.mono ?_; rintro e w2 ⟨a, c, sv', rv', rfl, hX2, hS2, _, hF2, hN1, hN2⟩; obtain ⟨z1, z2, z3⟩ := HPZ.out q w2 sv' rv' hX2 hF2 hN1 hN2; have HO2 := Lib.hid z1; have HA2 := Lib.hid z2; have HB2 := Lib.hid z3; have HS2 := Lib.hid hS2; have HX2 := Lib.hid hX2; clear hX2 hS2 hF2 hN1 hN2 z1 z2 z3) | (go_at_call 135; refine (plError_x HX3.out).mono ?_; rintro e w9 ⟨rfl, rfl⟩))
          go_returns
          exact rdr_nil HV2.out HB3.out
        · have h3 : q.1.last = 0 := by omega
          have HV2 : Hid (t0 = Pl.readF q.1 (i + 1) (acc ++ q.2) ((bytesOf s).drop (i + 1))) := by show _ = _; rw [hV, Pl.readF_more hq h3]
          unfold PlPutR at HP
          rw [h3, hm] at HP
          have HPC := Lib.hid HP
          have H3 := Lib.hid h3
          clear HP hg' hG' hq hm hV h1 h2 h3 hgr
          go_wp2_with (first | (at_builtin; refine wpList_app rfl _ _ 30 rfl w.heap.size 55 p0 .u64 8 Tryz.underlying30 pi pz0 pz1 pz2 v n (pixs acc) rfl HO2.out a m c q.2 rfl HS2.out (by unfold maxLen; omega) (by omega) HB2.out.size ?_; intro v3 w3 hown hgrow hat; have HO3 := Lib.hid hown; have HB3 := Lib.hid (HB2.out.grown hgrow HB2.out.size (fun j ej => (HO2.out.lt j ej).1)); have HX3 := Lib.hid (HX2.out.kept HA2.out hgrow); have HA3 := Lib.hid (ap_app HX2.out HA2.out hat); clear hown hgrow hat) | (go_at_call 130; refine HPC.out.mono ?_; rintro e w2 ⟨a, c, sv', rv', rfl, hX2, hS2, _, hF2, hN1, hN2⟩; obtain ⟨z1, z2, z3⟩ := HPZ.out q w2 sv' rv' hX2 hF2 hN1 hN2; have HO2 := Lib.hid z1; have HA2 := Lib.hid z2; have HB2 := Lib.hid z3; have HS2 := Lib.hid hS2; have HX2 := Lib.hid hX2; clear hX2 hS2 hF2 hN1 hN2 z1 z2 z3))
          go_roundw
          case rel => exact ⟨i + 1, sv', rv', q.1, acc ++ q.2, v3, by omega, by go_num, rfl, HX3.out, H3.out, by rw [List.length_append, HNL.out, HML.out]; have h := HO3.out; unfold pixs; rw [List.map_append]; exact h, HA3.out, by rw [List.length_append, HNL.out]; have := HQG.out; have := HGR.out; omega, HB3.out, HV2.out⟩
          case measure => simp [intOf]; omega
      · have hgl := Pl.fin_grow st
        have hls := Pl.fin_last HG.out
        have HP := plEnd_any wr b sv rv HX.out
        obtain ⟨q, hq⟩ : ∃ q, Pl.fin st = q := ⟨_, rfl⟩
        rw [List.drop_eq_nil_of_le (by rw [bytesOf_length]; omega), Pl.readF_nil hq] at hV
        rw [hq] at HP hgl hls
        obtain ⟨m, hm⟩ : ∃ m, q.2.length = m := ⟨_, rfl⟩
        have hml : m ≤ 100001 := by omega
        have HML := Lib.hid hm
        have his : i = s.size := by omega
        by_cases h2 : q.1.last = 2
        · have HV2 : Hid (t0 = ([], 0, q.1.e)) := by show _ = _; rw [hV, if_pos h2]
          unfold PlPutR at HP
          rw [h2, hm] at HP
          have HPC := Lib.hid HP
          clear HP hgl hls hq hm hV h2 hgr his
          go_wp2_with (first | (go_at_call 83; refine HPC.out.mono ?_; rintro e w2 ⟨a, c, sv', rv', rfl, hX2, hS2, _, hF2, hN1, hN2⟩; obtain ⟨z1, z2, z3⟩ := HPZ.out q w2 sv' rv' hX2 hF2 hN1 hN2; have HB2 := Lib.hid z3; have HX2 := Lib.hid hX2; clear hX2 hS2 hF2 hN1 hN2 z1 z2 z3) | (go_at_call 135; refine (plError_x HX2.out).mono ?_; rintro e w9 ⟨rfl, rfl⟩))
          go_returns
          exact rdr_nil HV2.out HB2.out
        · have h3 : q.1.last = 1 := by omega
          have HV2 : Hid (t0 = (acc ++ q.2, (s.size : Int), 0)) := by show _ = _; rw [hV, if_neg h2, his]
          unfold PlPutR at HP
          rw [h3, hm] at HP
          have HPC := Lib.hid HP
          clear HP hgl hls hq hm hV h2 h3 hgr his
          go_wp2_with (first | (at_builtin; refine wpList_app rfl _ _ 30 rfl w.heap.size 55 p0 .u64 8 Tryz.underlying30 pi pz0 pz1 pz2 v n (pixs acc) rfl HO2.out a m c q.2 rfl HS2.out (by unfold maxLen; omega) (by omega) HB2.out.size ?_; intro v3 w3 hown hgrow hat; have HO3 := Lib.hid hown; have HB3 := Lib.hid (HB2.out.grown hgrow HB2.out.size (fun j ej => (HO2.out.lt j ej).1)); clear hown hgrow hat) | (go_at_call 83; refine HPC.out.mono ?_; rintro e w2 ⟨a, c, sv', rv', rfl, hX2, hS2, _, hF2, hN1, hN2⟩; obtain ⟨z1, z2, z3⟩ := HPZ.out q w2 sv' rv' hX2 hF2 hN1 hN2; have HO2 := Lib.hid z1; have HB2 := Lib.hid z3; have HS2 := Lib.hid hS2; clear hX2 hS2 hF2 hN1 hN2 z1 z2 z3))
          go_returns
          exact rdr_row HV2.out rfl (by have h := HO3.out; unfold pixs; rw [List.map_append]; exact h) (by rw [List.length_append, HNL.out, HML.out]) HB3.out
  · have HN := Lib.hid (plNew_no h hf hm)
    have HV : Hid (Pl.readV h (bytesOf s) = ([], 0, 1)) := Lib.hid (if_neg hm)
    clear hf hm
    unfold agH at HN ⊢
    go_enter Tryz.func98, Tryz.ntmps98
    go_wp2_with (go_at_call 134; refine (HN.out _).mono ?_; rintro e w1 ⟨rfl, hb1⟩; have HB1 := Lib.hid (((Below.refl _ w).alloc (Nat.le_refl _) _).trans (hb1.mono (by simp))))
    go_returns
    exact rdr_nil HV.out HB1.out
end Go.Proofs.YtkjkepnailamnaaGreat
namespace Go.Proofs.YtkjkepnailamnaaGreat
open Go.RowKit
set_option linter.unusedVariables false
theorem may_fit {h : Hd.H} (H : Pl.May h) : Hj.Fit h := by
  have := H.m
  unfold Hj.Fit Nu.I; omega
end Go.Proofs.YtkjkepnailamnaaGreat
namespace Go.Proofs.YtkjkepnailamnaaGreat
open Go.RowKit
set_option linter.unusedVariables false
def agR (h : Hd.H) (N : Int) (v1 v2 : Value) (rows last e : Int) : Value := .agg #[.int .i64 h.kd, .int .i64 h.w, .int .i64 h.h, .int .i64 h.m, .int .i64 N, v1, v2, .int .i64 rows, .int .i64 last, .int .i64 e]
def RbC (w : World) (b : Nat) (h : Hd.H) (N : Int) (v1 v2 : Value) (rows last e : Int) : Prop :=
  w.heap[b]? = some (.cells #[.int .i64 h.kd, .int .i64 h.w, .int .i64 h.h, .int .i64 h.m, .int .i64 N, v1, v2, .int .i64 rows, .int .i64 last, .int .i64 e] 178 (0, 0))
section
variable {w w' : World} {b : Nat} {h : Hd.H} {N : Int} {v1 v2 : Value} {rows last e : Int}
theorem RbC.lt (H : RbC w b h N v1 v2 rows last e) : b < w.heap.size := (Array.getElem?_eq_some_iff.1 H).1
theorem RbC.later (H : RbC w b h N v1 v2 rows last e) (hb : Below w.heap.size w w') : RbC w' b h N v1 v2 rows last e := (hb.block b H.lt).trans H
theorem RbC.kept {row : Option Nat} (H : RbC w b h N v1 v2 rows last e) (hg : w.grownBy w' row) (hne : some b ≠ row) : RbC w' b h N v1 v2 rows last e := (hg.block b H.lt hne).trans H
theorem RbC.alloc (H : RbC w b h N v1 v2 rows last e) (o : Obj) : RbC (w.alloc o) b h N v1 v2 rows last e := H.kept (World.grownBy_alloc w o none) (by simp)
theorem RbC.drewN (H : RbC w b h N v1 v2 rows last e) (k : Nat) : RbC (w.drewN k) b h N v1 v2 rows last e := H
theorem RbC.sep {Z : Nat → Prop} (H : RbC w b h N v1 v2 rows last e) (hs : Sep Z w w') (hz : ¬ Z b) : RbC w' b h N v1 v2 rows last e := (hs.block b H.lt hz).trans H
theorem RbC.other (H : RbC w b h N v1 v2 rows last e) {a : Addr} (ha : b ≠ a.block) (y : Value) : RbC (w.setCell a y) b h N v1 v2 rows last e := (Below.heap_setCell w a y b ha).trans H
theorem RbC.fr (H : RbC w b h N v1 v2 rows last e) (o : Nat) : w.frozen? ⟨b, o, none⟩ = false := by have h' : w.heap[b]? = _ := H; simp [World.frozen?, h']
theorem RbC.new (w : World) (h : Hd.H) (N : Int) (v1 v2 : Value) (rows last e : Int) : RbC (w.alloc (.cells #[.int .i64 h.kd, .int .i64 h.w, .int .i64 h.h, .int .i64 h.m, .int .i64 N, v1, v2, .int .i64 rows, .int .i64 last, .int .i64 e] 178)) w.heap.size h N v1 v2 rows last e := World.alloc_heap_new w _
theorem RbC.c0 (H : RbC w b h N v1 v2 rows last e) : w.cell? ⟨b, 0, none⟩ = some (.int .i64 h.kd) := by have h' : w.heap[b]? = _ := H; simp [World.cell?, h']
theorem RbC.c1 (H : RbC w b h N v1 v2 rows last e) : w.cell? ⟨b, 1, none⟩ = some (.int .i64 h.w) := by have h' : w.heap[b]? = _ := H; simp [World.cell?, h']
theorem RbC.c2 (H : RbC w b h N v1 v2 rows last e) : w.cell? ⟨b, 2, none⟩ = some (.int .i64 h.h) := by have h' : w.heap[b]? = _ := H; simp [World.cell?, h']
theorem RbC.c3 (H : RbC w b h N v1 v2 rows last e) : w.cell? ⟨b, 3, none⟩ = some (.int .i64 h.m) := by have h' : w.heap[b]? = _ := H; simp [World.cell?, h']
theorem RbC.c4 (H : RbC w b h N v1 v2 rows last e) : w.cell? ⟨b, 4, none⟩ = some (.int .i64 N) := by have h' : w.heap[b]? = _ := H; simp [World.cell?, h']
theorem RbC.c5 (H : RbC w b h N v1 v2 rows last e) : w.cell? ⟨b, 5, none⟩ = some (v1) := by have h' : w.heap[b]? = _ := H; simp [World.cell?, h']
theorem RbC.c6 (H : RbC w b h N v1 v2 rows last e) : w.cell? ⟨b, 6, none⟩ = some (v2) := by have h' : w.heap[b]? = _ := H; simp [World.cell?, h']
theorem RbC.c7 (H : RbC w b h N v1 v2 rows last e) : w.cell? ⟨b, 7, none⟩ = some (.int .i64 rows) := by have h' : w.heap[b]? = _ := H; simp [World.cell?, h']
theorem RbC.c8 (H : RbC w b h N v1 v2 rows last e) : w.cell? ⟨b, 8, none⟩ = some (.int .i64 last) := by have h' : w.heap[b]? = _ := H; simp [World.cell?, h']
theorem RbC.c9 (H : RbC w b h N v1 v2 rows last e) : w.cell? ⟨b, 9, none⟩ = some (.int .i64 e) := by have h' : w.heap[b]? = _ := H; simp [World.cell?, h']
theorem RbC.put4 (H : RbC w b h N v1 v2 rows last e) (y : Int) : RbC (w.setCell ⟨b, 4, none⟩ (.int .i64 y)) b h y v1 v2 rows last e := by
  have h' : w.heap[b]? = _ := H
  simpa [RbC] using Go.heap_setCell_same w b 4 _ _ (.int .i64 y) h'
theorem RbC.put5 (H : RbC w b h N v1 v2 rows last e) (y : Value) : RbC (w.setCell ⟨b, 5, none⟩ y) b h N y v2 rows last e := by
  have h' : w.heap[b]? = _ := H
  simpa [RbC] using Go.heap_setCell_same w b 5 _ _ y h'
theorem RbC.put6 (H : RbC w b h N v1 v2 rows last e) (y : Value) : RbC (w.setCell ⟨b, 6, none⟩ y) b h N v1 y rows last e := by
  have h' : w.heap[b]? = _ := H
  simpa [RbC] using Go.heap_setCell_same w b 6 _ _ y h'
theorem RbC.put7 (H : RbC w b h N v1 v2 rows last e) (y : Int) : RbC (w.setCell ⟨b, 7, none⟩ (.int .i64 y)) b h N v1 v2 y last e := by
  have h' : w.heap[b]? = _ := H
  simpa [RbC] using Go.heap_setCell_same w b 7 _ _ (.int .i64 y) h'
theorem RbC.put8 (H : RbC w b h N v1 v2 rows last e) (y : Int) : RbC (w.setCell ⟨b, 8, none⟩ (.int .i64 y)) b h N v1 v2 rows y e := by
  have h' : w.heap[b]? = _ := H
  simpa [RbC] using Go.heap_setCell_same w b 8 _ _ (.int .i64 y) h'
theorem RbC.put9 (H : RbC w b h N v1 v2 rows last e) (y : Int) : RbC (w.setCell ⟨b, 9, none⟩ (.int .i64 y)) b h N v1 v2 rows last y := by
  have h' : w.heap[b]? = _ := H
  simpa [RbC] using Go.heap_setCell_same w b 9 _ _ (.int .i64 y) h'
theorem RbC.putAll (H : RbC w b h N v1 v2 rows last e) (k : Hd.H) (N2 : Int) (u1 u2 : Value) (rows2 last2 e2 : Int) : RbC ((((((((((w.setCell ⟨b, 0, none⟩ (.int .i64 k.kd)).setCell ⟨b, 1, none⟩ (.int .i64 k.w)).setCell ⟨b, 2, none⟩ (.int .i64 k.h)).setCell ⟨b, 3, none⟩ (.int .i64 k.m)).setCell ⟨b, 4, none⟩ (.int .i64 N2)).setCell ⟨b, 5, none⟩ u1).setCell ⟨b, 6, none⟩ u2).setCell ⟨b, 7, none⟩ (.int .i64 rows2)).setCell ⟨b, 8, none⟩ (.int .i64 last2)).setCell ⟨b, 9, none⟩ (.int .i64 e2)) b k N2 u1 u2 rows2 last2 e2 := by
  have h0 : w.heap[b]? = _ := H
  have h1 := Go.heap_setCell_same _ b 0 _ _ (.int .i64 k.kd) h0
  have h2 := Go.heap_setCell_same _ b 1 _ _ (.int .i64 k.w) h1
  have h3 := Go.heap_setCell_same _ b 2 _ _ (.int .i64 k.h) h2
  have h4 := Go.heap_setCell_same _ b 3 _ _ (.int .i64 k.m) h3
  have h5 := Go.heap_setCell_same _ b 4 _ _ (.int .i64 N2) h4
  have h6 := Go.heap_setCell_same _ b 5 _ _ u1 h5
  have h7 := Go.heap_setCell_same _ b 6 _ _ u2 h6
  have h8 := Go.heap_setCell_same _ b 7 _ _ (.int .i64 rows2) h7
  have h9 := Go.heap_setCell_same _ b 8 _ _ (.int .i64 last2) h8
  have h10 := Go.heap_setCell_same _ b 9 _ _ (.int .i64 e2) h9
  simpa [RbC] using h10
theorem RbC.grownAll (w : World) (b : Nat) (k : Hd.H) (N2 : Int) (u1 u2 : Value) (rows2 last2 e2 : Int) : w.grownBy ((((((((((w.setCell ⟨b, 0, none⟩ (.int .i64 k.kd)).setCell ⟨b, 1, none⟩ (.int .i64 k.w)).setCell ⟨b, 2, none⟩ (.int .i64 k.h)).setCell ⟨b, 3, none⟩ (.int .i64 k.m)).setCell ⟨b, 4, none⟩ (.int .i64 N2)).setCell ⟨b, 5, none⟩ u1).setCell ⟨b, 6, none⟩ u2).setCell ⟨b, 7, none⟩ (.int .i64 rows2)).setCell ⟨b, 8, none⟩ (.int .i64 last2)).setCell ⟨b, 9, none⟩ (.int .i64 e2)) (some b) := (((((((((grown_set _ _ _ _).trans (grown_set _ _ _ _)).trans (grown_set _ _ _ _)).trans (grown_set _ _ _ _)).trans (grown_set _ _ _ _)).trans (grown_set _ _ _ _)).trans (grown_set _ _ _ _)).trans (grown_set _ _ _ _)).trans (grown_set _ _ _ _)).trans (grown_set _ _ _ _)
theorem RbC.cells (H : RbC w b h N v1 v2 rows last e) : w.cell? ⟨b, 0, none⟩ = some (.int .i64 h.kd) ∧ w.cell? ⟨b, 1, none⟩ = some (.int .i64 h.w) ∧ w.cell? ⟨b, 2, none⟩ = some (.int .i64 h.h) ∧ w.cell? ⟨b, 3, none⟩ = some (.int .i64 h.m) ∧ w.cell? ⟨b, 4, none⟩ = some (.int .i64 N) ∧ w.cell? ⟨b, 5, none⟩ = some (v1) ∧ w.cell? ⟨b, 6, none⟩ = some (v2) ∧ w.cell? ⟨b, 7, none⟩ = some (.int .i64 rows) ∧ w.cell? ⟨b, 8, none⟩ = some (.int .i64 last) ∧ w.cell? ⟨b, 9, none⟩ = some (.int .i64 e) := ⟨H.c0, H.c1, H.c2, H.c3, H.c4, H.c5, H.c6, H.c7, H.c8, H.c9⟩
theorem RbC.frs (H : RbC w b h N v1 v2 rows last e) : w.frozen? ⟨b, 0, none⟩ = false ∧ w.frozen? ⟨b, 1, none⟩ = false ∧ w.frozen? ⟨b, 2, none⟩ = false ∧ w.frozen? ⟨b, 3, none⟩ = false ∧ w.frozen? ⟨b, 4, none⟩ = false ∧ w.frozen? ⟨b, 5, none⟩ = false ∧ w.frozen? ⟨b, 6, none⟩ = false ∧ w.frozen? ⟨b, 7, none⟩ = false ∧ w.frozen? ⟨b, 8, none⟩ = false ∧ w.frozen? ⟨b, 9, none⟩ = false := ⟨H.fr 0, H.fr 1, H.fr 2, H.fr 3, H.fr 4, H.fr 5, H.fr 6, H.fr 7, H.fr 8, H.fr 9⟩
end
theorem load_rR {w : World} {b : Nat} {h : Hd.H} {N : Int} {v1 v2 : Value} {rows last e : Int} (H : RbC w b h N v1 v2 rows last e) : (loadVar 178 ⟨b, 0, none⟩).run Tryz.prog w = .ok (agR h N v1 v2 rows last e) w := by
  have h' : w.heap[b]? = _ := H
  simp [go_sem, H.c0, H.c1, H.c2, H.c3, H.c4, H.c5, H.c6, H.c7, H.c8, H.c9, agR]
theorem ret_cell_tmp {P : Program} {fn : Func} {p u : Tmp} {ty : TypeId} (h : fn.results = #[.cell p ty, .tmp u]) (tmps : Array Value) (w : World) (b : Nat) (val : Value) (hp : tmps.getD p undef = .pointer (some ⟨b, 0, none⟩)) (hl : (loadVar ty ⟨b, 0, none⟩).run P w = .ok val w) :
    (results fn tmps).run P w = .ok (.tuple #[val, tmps.getD u undef]) w := by
  have hp' : tmps[p]?.getD undef = .pointer (some ⟨b, 0, none⟩) := by simpa using hp
  simp only [results, h]
  simp [hp', asAddr, hl, Result.andThen]
def Pl.nn (s : Pl.S) : Int := if s.d = true then s.n else -1
def RfV (w : World) (v : Value) (s : Pl.S) : Prop :=
  ∃ a1 c1 a2 c2, v = agR s.h (Pl.nn s) (.slice a1 s.one.length c1) (.slice a2 s.row.length c2) s.rows s.last s.e ∧ SlK .i64 w a1 s.one.length s.one ∧ SlK .u64 w a2 s.row.length s.row
theorem RfV.later {w w' : World} {v : Value} {s : Pl.S} (h : RfV w v s) (hb : Below w.heap.size w w') : RfV w' v s := by
  obtain ⟨a1, c1, a2, c2, hv, h1, h2⟩ := h
  exact ⟨a1, c1, a2, c2, hv, h1.below hb, h2.below hb⟩
set_option maxRecDepth 100000 in
set_option maxHeartbeats 1000000 in
theorem refPlNew_any (h : Hd.H) (w : World) :
    Calls Tryz.prog 104 #[agH h] w fun e w' => e = .returned (agR h (-1) (.slice none 0 0) (.slice none 0 0) 0 0 0) ∧ Below w.heap.size w w' := by
  unfold agH agR
  go_enter Tryz.func104, Tryz.ntmps104
  go_wp2
  go_returns
  exact ⟨rfl, by go_grown⟩
set_option maxRecDepth 100000 in
set_option maxHeartbeats 1000000 in
theorem refWrong_any (h : Hd.H) (N : Int) (a1 a2 : Option Addr) (n1 c1 n2 c2 : Nat) (rows last e er : Int) (w : World) :
    Calls Tryz.prog 141 #[agR h N (.slice a1 n1 c1) (.slice a2 n2 c2) rows last e, .int .i64 er] w fun r w' => r = .returned (agR h N (.slice a1 n1 c1) (.slice a2 n2 c2) rows 2 er) ∧ Below w.heap.size w w' := by
  unfold agR
  go_enter Tryz.func141, Tryz.ntmps141
  go_wp2
  go_returns
  exact ⟨rfl, by go_grown⟩
end Go.Proofs.YtkjkepnailamnaaGreat
namespace Go.Proofs.YtkjkepnailamnaaGreat
open Go.RowKit
set_option linter.unusedVariables false
theorem one_slk (w : World) (q : IntKind) (x : Int) (t : TypeId) : SlK q (w.alloc (.cells #[.int q x] t)) (some ⟨w.heap.size, 0, none⟩) 1 [x] := by
  refine ⟨rfl, .inr ⟨w.heap.size, 0, rfl, fun i hi => ?_⟩⟩
  obtain rfl : i = 0 := by omega
  rw [World.cell?_alloc_at _ _ _ _ rfl]; rfl
def Pl.Fits (G : Hd.H) (l : List Int) : Prop := ∀ p ∈ l, Pq.GoodP p (Hj.chan G) G.m
end Go.Proofs.YtkjkepnailamnaaGreat
namespace Go.Proofs.YtkjkepnailamnaaGreat
open Go.RowKit
set_option linter.unusedVariables false
namespace Pl
def wTk (zs : List Int) : Nat → List Int
  | 0 => []
  | k + 1 => wTk zs k ++ Nu.decV (zs.getD k 0) ++ (if k + 1 < zs.length then [32] else [])
def wLn (G : Hd.H) (i : Nat) : Bool := decide (1 < G.kd) || ((i : Int) % G.w == G.w - 1) || ((i : Int) % G.w % 70 == 69)
def wAll (G : Hd.H) (l : List Int) : Nat → List Int
  | 0 => []
  | i + 1 => wAll G l i ++ wTk (Pq.Px.smp (l.getD i 0)) (Pq.Px.smp (l.getD i 0)).length ++ (if wLn G i = true then [10] else [])
theorem wTk_len {zs : List Int} (h : ∀ s ∈ zs, Nu.I s) : ∀ k, k ≤ zs.length → (wTk zs k).length ≤ 67 * k
  | 0, _ => by simp [wTk]
  | k + 1, hk => by
    have h1 := wTk_len h k (by omega)
    have h2 := Nu.decV_len (h (zs.getD k 0) (getD_mem (by omega)))
    simp only [wTk, List.length_append]
    split
    · rw [List.length_singleton]; omega
    · rw [List.length_nil]; omega
theorem goodU {G : Hd.H} {l : List Int} (hl : Fits G l) : ∀ p ∈ l, Pq.Px.U p := fun p hp => Pq.goodU (hl p hp)
theorem wAll_len {G : Hd.H} {l : List Int} (hl : ∀ p ∈ l, Pq.Px.U p) : ∀ i, i ≤ l.length → (wAll G l i).length ≤ 202 * i
  | 0, _ => by simp [wAll]
  | i + 1, hi => by
    have h1 := wAll_len (G := G) hl i (by omega)
    have hU := hl (l.getD i 0) (getD_mem (by omega))
    have h2 := wTk_len (smp_I hU) _ (Nat.le_refl _)
    have h3 := (smp_in hU).1
    simp only [wAll, List.length_append]
    split
    · rw [List.length_singleton]; omega
    · rw [List.length_nil]; omega
theorem fits_true {p c m : Int} (h : Pq.GoodP p c m) (m1 : 1 ≤ m) (m2 : m ≤ 65535) : Pq.Px.fitsV p c m = true := by
  rcases h with ⟨rfl, x, y, z, h3, hx, hy, hz⟩ | ⟨rfl, x, h1, hx⟩
  · rw [Pq.Px.fitsV3_all h3 hx hy hz]
    simp [Pq.Px.formatV, m1, m2]
  · rw [Pq.Px.fitsV1_all h1 hx]
    simp [Pq.Px.formatV, m1, m2]
def fitAll (G : Hd.H) (l : List Int) : Bool := l.all fun p => Pq.Px.fitsV p (Hj.chan G) G.m
def wV (G : Hd.H) (l : List Int) : Value := if fitAll G l = true then .tuple #[.string (strOfNums (wAll G l l.length)), .int .i64 0] else .tuple #[.string ⟨#[]⟩, .int .i64 1]
theorem fitAll_no {G : Hd.H} {l : List Int} {k : Nat} (hk : k < l.length) (h : Pq.Px.fitsV (l.getD k 0) (Hj.chan G) G.m = false) : fitAll G l = false := by
  unfold fitAll
  rw [List.all_eq_false]
  exact ⟨_, getD_mem hk, by rw [h]; decide⟩
theorem fitAll_yes {G : Hd.H} {l : List Int} (h : ∀ j, j < l.length → Pq.Px.fitsV (l.getD j 0) (Hj.chan G) G.m = true) : fitAll G l = true := by
  unfold fitAll
  rw [List.all_eq_true]
  intro p hp
  obtain ⟨j, hj, rfl⟩ := List.mem_iff_getElem.1 hp
  have := h j hj
  rwa [List.getD_eq_getElem?_getD, List.getElem?_eq_getElem hj] at this
theorem wAll_succ (G : Hd.H) (l : List Int) (i : Nat) : wAll G l (i + 1) = wAll G l i ++ wTk (Pq.Px.smp (l.getD i 0)) (Pq.Px.smp (l.getD i 0)).length ++ (if wLn G i = true then [10] else []) := rfl
theorem wTk_succ (zs : List Int) (k : Nat) : wTk zs (k + 1) = wTk zs k ++ Nu.decV (zs.getD k 0) ++ (if k + 1 < zs.length then [32] else []) := rfl
theorem ln_yes1 {G : Hd.H} {i : Nat} (h : ¬ G.kd ≤ 1) : wLn G i = true := by
  have : 1 < G.kd := by omega
  simp [wLn, this]
theorem ln_yes2 {G : Hd.H} {i gw : Nat} (hg : G.w = (gw : Int)) (h : (i : Int) % (gw : Int) = (gw : Int) - 1) : wLn G i = true := by
  simp [wLn, hg, h]
theorem ln_yes3 {G : Hd.H} {i gw : Nat} (hg : G.w = (gw : Int)) (h : (1 < G.kd ∨ ((i : Int) % (gw : Int) == (gw : Int) - 1) = true) ∨ ((i : Int) % (gw : Int) % 70 == 69) = true) : wLn G i = true := by
  unfold wLn; rw [hg]
  rcases h with (h | h) | h
  · simp [h]
  · rw [h]; simp
  · rw [h]; simp
theorem ln_no {G : Hd.H} {i gw : Nat} (hg : G.w = (gw : Int)) (h : (G.kd ≤ 1 ∧ ((i : Int) % (gw : Int) == (gw : Int) - 1) = false) ∧ ((i : Int) % (gw : Int) % 70 == 69) = false) : wLn G i = false := by
  have h1 : ¬ 1 < G.kd := by omega
  unfold wLn; rw [hg, h.1.2, h.2]; simp [h1]
theorem str32 : (⟨#[32]⟩ : ByteArray) = strOfNums [32] := rfl
theorem str10 : (⟨#[10]⟩ : ByteArray) = strOfNums [10] := rfl
end Pl
end Go.Proofs.YtkjkepnailamnaaGreat
namespace Go.Proofs.YtkjkepnailamnaaGreat
open Go.RowKit
set_option linter.unusedVariables false
namespace Pl
def putS (s : S) (t : List Int) : S := t.foldl (fun s c => (put s c).1) s
def Run (s : S) (t : List Int) (s' : S) (out : List Int) : Prop :=
  putS s t = s' ∧ ∀ (i : Nat) (acc cs : List Int), readF s i acc (t ++ cs) = readF s' (i + t.length) (acc ++ out) cs
theorem Run.none (s : S) : Run s [] s [] := ⟨rfl, fun i acc cs => by simp⟩
theorem Run.one {s : S} {c : Int} {q : S × List Int} (hq : put s c = q) (h : q.1.last = 0) : Run s [c] q.1 q.2 :=
  ⟨by simp [putS, hq], fun i acc cs => by rw [List.singleton_append, readF_more hq h]; rfl⟩
theorem Run.app {s s' s2 : S} {t t' o o' : List Int} (h1 : Run s t s' o) (h2 : Run s' t' s2 o') : Run s (t ++ t') s2 (o ++ o') := by
  refine ⟨?_, fun i acc cs => ?_⟩
  · have e1 := h1.1
    have e2 := h2.1
    unfold putS at *
    rw [List.foldl_append, e1, e2]
  · rw [List.append_assoc, h1.2, h2.2, List.append_assoc, List.length_append, Nat.add_assoc]
def Rdy (s : S) : Prop := s.last = 0 ∧ s.d = false ∧ s.n = 0
theorem rdy_sample {s : S} {z : Int} (h : (sample s z).1.last = 0) : Rdy (sample s z).1 := by
  unfold sample at *
  split
  · exact ⟨rfl, rfl, rfl⟩
  · rename_i h1
    rw [if_neg h1] at h
    split
    · exact ⟨rfl, rfl, rfl⟩
    · rename_i h2
      rw [if_neg h2] at h
      exact ⟨h, rfl, rfl⟩
theorem put_blank {s : S} {c : Int} (hr : Rdy s) (hc : Tk.blank c = true) : put s c = (s, []) := by
  unfold put
  rw [if_neg (by simp [hr.1]), if_pos hc, if_neg (by simp [hr.2.1])]
theorem run_blank {s : S} {c : Int} (hr : Rdy s) (hc : Tk.blank c = true) : Run s [c] s [] := Run.one (put_blank hr hc) hr.1
theorem run_blanks {s : S} (hr : Rdy s) : ∀ es : List Int, (∀ e ∈ es, Tk.blank e = true) → Run s es s []
  | [], _ => Run.none s
  | e :: es, h => by
    have h1 := (run_blank hr (h e (List.mem_cons_self ..))).app (run_blanks hr es fun x hx => h x (List.mem_cons_of_mem _ hx))
    simpa using h1
theorem digit_not {c : Int} (h : 48 ≤ c ∧ c ≤ 57) : Tk.blank c = false := by unfold Tk.blank; simp; omega
theorem run_digits {v : Int} : ∀ (xs : List Int) (s : S), s.last = 0 → ¬ s.h.kd = 1 → xs ≠ [] → Nu.parseF s.h.m s.n xs = (v, 0) → Run s xs (digit s v) []
  | [], s, _, _, h, _ => absurd rfl h
  | c :: cs, s, h0, hk, _, hp => by
    unfold Nu.parseF at hp
    by_cases he : (Nu.stepV s.n c s.h.m).2 = 0
    · rw [if_pos he] at hp
      have hd := Tk.step_digit he
      have hq : put s c = (digit s (Nu.stepV s.n c s.h.m).1, []) := by
        unfold put
        rw [if_neg (by simp [h0]), if_neg (by rw [digit_not hd]; simp), if_neg hk, if_pos he]
      have h1 := Run.one hq rfl
      cases cs with
      | nil =>
        unfold Nu.parseF at hp
        have : (Nu.stepV s.n c s.h.m).1 = v := by injection hp
        rw [this] at h1
        exact h1
      | cons c2 cs =>
        have h2 := run_digits (c2 :: cs) (digit s (Nu.stepV s.n c s.h.m).1) rfl hk (by simp) hp
        exact h1.app h2
    · rw [if_neg he] at hp
      injection hp with e1 e2
      exact absurd e2 he
def It (kd m z : Int) (bs : List Int) : Prop := 0 ≤ z ∧ z ≤ m ∧ ((kd = 1 ∧ z ≤ 1 ∧ bs = [48 + z]) ∨ (¬ kd = 1 ∧ ∃ c, Tk.blank c = true ∧ bs = Nu.decV z ++ [c]))
theorem it_last {s : S} {z : Int} {bs : List Int} (hr : Rdy s) (hi : It s.h.kd s.h.m z bs) :
    ∃ s1 pre c, bs = pre ++ [c] ∧ Run s pre s1 [] ∧ put s1 c = sample s z := by
  obtain ⟨z0, z1, ⟨hk, hz, rfl⟩ | ⟨hk, c, hc, rfl⟩⟩ := hi
  · refine ⟨s, [], 48 + z, rfl, Run.none s, ?_⟩
    unfold put
    rw [if_neg (by simp [hr.1]), if_neg (by rw [digit_not (by omega)]; simp), if_pos hk, if_pos (by omega), show 48 + z - 48 = z by omega]
  · have hp := Nu.parse_dig s.h.m (by omega) z z0
    rw [if_pos z1, ← Nu.decV_up z0] at hp
    have hp : Nu.parseF s.h.m s.n (Nu.decV z) = (z, 0) := by rw [hr.2.2]; exact hp
    refine ⟨digit s z, Nu.decV z, c, rfl, run_digits _ s hr.1 hk (Nu.decV_ne z0) hp, ?_⟩
    show put (digit s z) c = sample s z
    unfold put
    rw [if_neg (by simp [digit]), if_pos hc, if_pos (show (digit s z).d = true from rfl)]
    rfl
theorem it_more {s : S} {z : Int} {bs : List Int} (hr : Rdy s) (hi : It s.h.kd s.h.m z bs) (h : (sample s z).1.last = 0) : Run s bs (sample s z).1 (sample s z).2 := by
  obtain ⟨s1, pre, c, rfl, h1, h2⟩ := it_last hr hi
  have := h1.app (Run.one h2 h)
  simpa using this
theorem it_over {s : S} {z : Int} {bs : List Int} (hr : Rdy s) (hi : It s.h.kd s.h.m z bs) (h : (sample s z).1.last = 1) (i : Nat) (acc cs : List Int) : readF s i acc (bs ++ cs) = (acc ++ (sample s z).2, ((i + bs.length : Nat) : Int), 0) := by
  obtain ⟨s1, pre, c, rfl, h1, h2⟩ := it_last hr hi
  rw [List.append_assoc, h1.2, List.singleton_append, readF_over h2 h]
  simp; omega
def Sq (kd m : Int) (b : Nat) : List Int → List Int → Prop
  | [], t => t = []
  | z :: zs, t => ∃ bs es t', t = bs ++ es ++ t' ∧ It kd m z bs ∧ (∀ e ∈ es, Tk.blank e = true) ∧ es.length ≤ b ∧ Sq kd m b zs t'
theorem Sq.app {kd m : Int} {b : Nat} : ∀ {zs ys t u : List Int}, Sq kd m b zs t → Sq kd m b ys u → Sq kd m b (zs ++ ys) (t ++ u)
  | [], ys, t, u, h, k => by unfold Sq at h; subst h; simpa using k
  | z :: zs, ys, t, u, h, k => by
    obtain ⟨bs, es, t', rfl, h1, h2, h3, h4⟩ := h
    exact ⟨bs, es, t' ++ u, by simp, h1, h2, h3, h4.app k⟩
def tell (s : S) : List Int → S × List Int
  | [] => (s, [])
  | z :: zs => ((tell (sample s z).1 zs).1, (sample s z).2 ++ (tell (sample s z).1 zs).2)
def Live (s : S) : List Int → Prop
  | [] => True
  | z :: zs => (sample s z).1.last = 0 ∧ Live (sample s z).1 zs
theorem tell_app (s : S) : ∀ (zs ys : List Int), tell s (zs ++ ys) = ((tell (tell s zs).1 ys).1, (tell s zs).2 ++ (tell (tell s zs).1 ys).2)
  | [], ys => by simp [tell]
  | z :: zs, ys => by
    show ((tell (sample s z).1 (zs ++ ys)).1, (sample s z).2 ++ (tell (sample s z).1 (zs ++ ys)).2) = ((tell (tell (sample s z).1 zs).1 ys).1, (sample s z).2 ++ (tell (sample s z).1 zs).2 ++ (tell (tell (sample s z).1 zs).1 ys).2)
    rw [tell_app (sample s z).1 zs ys, List.append_assoc]
theorem live_app (s : S) : ∀ (zs ys : List Int), Live s zs → Live (tell s zs).1 ys → Live s (zs ++ ys)
  | [], ys, _, k => k
  | z :: zs, ys, h, k => ⟨h.1, live_app (sample s z).1 zs ys h.2 k⟩
theorem sq_run {b : Nat} : ∀ (zs t : List Int) (s : S), Rdy s → Sq s.h.kd s.h.m b zs t → Live s zs → Run s t (tell s zs).1 (tell s zs).2 ∧ Rdy (tell s zs).1 ∧ (tell s zs).1.h = s.h
  | [], t, s, hr, hq, _ => by unfold Sq at hq; subst hq; exact ⟨Run.none s, hr, rfl⟩
  | z :: zs, t, s, hr, hq, hl => by
    obtain ⟨bs, es, t', rfl, h1, h2, h3, h4⟩ := hq
    have hr2 := rdy_sample hl.1
    have hh := sample_h s z
    have ih := sq_run zs t' (sample s z).1 hr2 (by rw [hh]; exact h4) hl.2
    have := ((it_more hr h1 hl.1).app (run_blanks hr2 es h2)).app ih.1
    refine ⟨?_, ih.2.1, ih.2.2.trans hh⟩
    simpa [tell] using this
theorem sq_over {b : Nat} {zs t : List Int} {z : Int} {s : S} (hr : Rdy s) (hq : Sq s.h.kd s.h.m b (zs ++ [z]) t) (hl : Live s zs) (h1 : (sample (tell s zs).1 z).1.last = 1) (i : Nat) (acc cs : List Int) :
    ∃ n : Nat, readF s i acc (t ++ cs) = (acc ++ (tell s (zs ++ [z])).2, (n : Int), 0) ∧ n ≤ i + t.length ∧ i + t.length ≤ n + b := by
  obtain ⟨t1, t2, rfl, q1, q2⟩ : ∃ t1 t2, t = t1 ++ t2 ∧ Sq s.h.kd s.h.m b zs t1 ∧ Sq s.h.kd s.h.m b [z] t2 := by
    clear hl h1 hr
    generalize s.h.kd = kd at hq
    generalize s.h.m = m at hq
    induction zs generalizing t with
    | nil => exact ⟨[], t, rfl, rfl, hq⟩
    | cons y zs ih =>
      obtain ⟨bs, es, t', rfl, k1, k2, k3, k4⟩ := hq
      obtain ⟨t1, t2, rfl, q1, q2⟩ := ih k4
      exact ⟨bs ++ es ++ t1, t2, by simp, ⟨bs, es, t1, rfl, k1, k2, k3, q1⟩, q2⟩
  obtain ⟨r1, r2, r3⟩ := sq_run zs t1 s hr q1 hl
  obtain ⟨bs, es, t', rfl, k1, k2, k3, k4⟩ := q2
  unfold Sq at k4
  subst k4
  rw [← r3] at k1
  refine ⟨i + t1.length + bs.length, ?_, by simp; omega, by simp; omega⟩
  rw [show t1 ++ (bs ++ es ++ []) ++ cs = t1 ++ (bs ++ (es ++ cs)) by simp, r1.2, it_over r2 k1 h1, tell_app]
  simp [tell]
end Pl
end Go.Proofs.YtkjkepnailamnaaGreat
namespace Go.Proofs.YtkjkepnailamnaaGreat
open Go.RowKit
set_option linter.unusedVariables false
namespace Pl
theorem chan13 {G : Hd.H} (hm : May G) : (G.kd = 3 ∧ Hj.chan G = 3) ∨ (G.kd ≠ 3 ∧ Hj.chan G = 1) := by
  have := hm.m
  unfold Hj.chan
  by_cases h : G.kd = 3
  · exact .inl ⟨h, if_pos (.inl h)⟩
  · exact .inr ⟨h, if_neg (by omega)⟩
theorem pix_tell {s : S} {p : Int} (hm : May s.h) (hr : Rdy s) (ho : s.one = []) (hp : Pq.GoodP p (Hj.chan s.h) s.h.m) :
    ∃ ys y, Pq.Px.smp p = ys ++ [y] ∧ Live s ys ∧ (tell s ys).2 = [] ∧
      sample (tell s ys).1 y = if (s.row.length : Int) + 1 < s.h.w then (⟨s.h, 0, false, [], s.row ++ [p], s.rows, 0, 0⟩, []) else (⟨s.h, 0, false, [], [], s.rows + 1, if s.rows + 1 = s.h.h then 1 else 0, 0⟩, s.row ++ [p]) := by
  have hmm := hm.m
  rcases hp with ⟨hc, x, y, z, h3, hx, hy, hz⟩ | ⟨hc, x, h1, hx⟩
  · obtain ⟨e0, a1, a2, a3, a4, a5, a6⟩ := id h3
    refine ⟨[x, y], z, Pq.Px.smp3 h3, ?_, ?_, ?_⟩
    · refine ⟨?_, ?_, trivial⟩
      · unfold sample; rw [if_pos (by rw [ho, hc]; decide)]; rfl
      · have e1 : sample s x = (more s x, []) := by unfold sample; rw [if_pos (by rw [ho, hc]; decide)]
        rw [e1]
        unfold sample; rw [if_pos (by show (((s.one ++ [x]).length : Nat) : Int) + 1 < Hj.chan s.h; rw [ho, hc]; simp)]; rfl
    · have e1 : sample s x = (more s x, []) := by unfold sample; rw [if_pos (by rw [ho, hc]; decide)]
      have e2 : sample (more s x) y = (more (more s x) y, []) := by unfold sample; rw [if_pos (by show (((s.one ++ [x]).length : Nat) : Int) + 1 < Hj.chan s.h; rw [ho, hc]; simp)]
      simp [tell, e1, e2]
    · have e1 : sample s x = (more s x, []) := by unfold sample; rw [if_pos (by rw [ho, hc]; decide)]
      have e2 : sample (more s x) y = (more (more s x) y, []) := by unfold sample; rw [if_pos (by show (((s.one ++ [x]).length : Nat) : Int) + 1 < Hj.chan s.h; rw [ho, hc]; simp)]
      have e3 : (tell s [x, y]).1 = more (more s x) y := by simp [tell, e1, e2]
      have e4 : pix (more (more s x) y) z = p := by
        show (Pq.Px.packV (s.one ++ [x] ++ [y] ++ [z])).1 = p
        rw [ho]
        show (Pq.Px.packV [x, y, z]).1 = p
        rw [Pq.Px.packV3 a1 a2 a3 a4 a5 a6, e0]
      rw [e3]
      unfold sample
      rw [if_neg (by show ¬ (((s.one ++ [x] ++ [y]).length : Nat) : Int) + 1 < Hj.chan s.h; rw [ho, hc]; simp)]
      show (if (s.row.length : Int) + 1 < s.h.w then _ else _) = _
      split
      · unfold pixel; rw [e4]; rfl
      · unfold line; rw [e4]; rfl
  · obtain ⟨e0, a1, a2⟩ := id h1
    refine ⟨[], x, Pq.Px.smp1 h1, trivial, rfl, ?_⟩
    have e4 : pix s x = p := by
      unfold pix
      rw [ho]
      show (Pq.Px.packV [x]).1 = p
      rw [Pq.Px.packV1 a1 a2, e0]
    show sample s x = _
    unfold sample
    rw [if_neg (by rw [ho, hc]; decide)]
    split
    · unfold pixel; rw [e4]
    · unfold line; rw [e4]
theorem kd1_m {G : Hd.H} (hm : May G) (h : G.kd = 1) : G.m = 1 := by
  have h1 := hm.1
  unfold Hd.May at h1
  obtain ⟨-, -, -, -, h9⟩ := h1
  exact h9 (by unfold Hd.bits; simp [h])
theorem sq_pix {G : Hd.H} {p : Int} {i : Nat} (hm : May G) (hp : Pq.GoodP p (Hj.chan G) G.m) : Sq G.kd G.m 1 (Pq.Px.smp p) (wTk (Pq.Px.smp p) (Pq.Px.smp p).length ++ if wLn G i = true then [10] else []) := by
  have hmm := hm.m
  have b10 : Tk.blank 10 = true := by decide
  have b32 : Tk.blank 32 = true := by decide
  have hb : ∀ x : List Int, x = [10] ∨ x = [] → (∀ e ∈ x, Tk.blank e = true) ∧ x.length ≤ 1 := by
    rintro x (rfl | rfl)
    · exact ⟨fun e he => by rw [List.mem_singleton.1 he]; exact b10, Nat.le_refl _⟩
    · exact ⟨fun e he => (by cases he), Nat.zero_le _⟩
  have hk := chan13 hm
  rcases hp with ⟨hc, x, y, z, h3, hx, hy, hz⟩ | ⟨hc, x, h1, hx⟩
  · obtain ⟨e0, a1, a2, a3, a4, a5, a6⟩ := id h3
    have hk3 : G.kd = 3 := by omega
    have hw : wLn G i = true := by simp [wLn, hk3]
    rw [Pq.Px.smp3 h3, hw, if_pos rfl]
    have hn : ¬ G.kd = 1 := by omega
    refine ⟨Nu.decV x ++ [32], [], Nu.decV y ++ [32] ++ (Nu.decV z ++ [10]), ?_, ⟨a1, hx, .inr ⟨hn, 32, b32, rfl⟩⟩, (fun e he => by cases he), Nat.zero_le _, ?_⟩
    · simp [wTk]
    · refine ⟨Nu.decV y ++ [32], [], Nu.decV z ++ [10], by simp, ⟨a3, hy, .inr ⟨hn, 32, b32, rfl⟩⟩, (fun e he => by cases he), Nat.zero_le _, ?_⟩
      exact ⟨Nu.decV z ++ [10], [], [], by simp, ⟨a5, hz, .inr ⟨hn, 10, b10, rfl⟩⟩, (fun e he => by cases he), Nat.zero_le _, rfl⟩
  · obtain ⟨e0, a1, a2⟩ := id h1
    rw [Pq.Px.smp1 h1]
    have hT : wTk [x] ([x] : List Int).length = Nu.decV x := by simp [wTk]
    rw [hT]
    by_cases h : G.kd = 1
    · have hm1 := kd1_m hm h
      refine ⟨[48 + x], if wLn G i = true then [10] else [], [], ?_, ⟨a1, hx, .inl ⟨h, by omega, rfl⟩⟩, (hb _ ?_).1, (hb _ ?_).2, rfl⟩
      · rw [Nu.decV_pos a1 (by omega), List.append_nil]
      · split
        · exact .inl rfl
        · exact .inr rfl
      · split
        · exact .inl rfl
        · exact .inr rfl
    · have hw : wLn G i = true := by
        have : 1 < G.kd := by omega
        simp [wLn, this]
      rw [hw, if_pos rfl]
      exact ⟨Nu.decV x ++ [10], [], [], by simp, ⟨a1, hx, .inr ⟨h, 10, b10, rfl⟩⟩, (fun e he => by cases he), Nat.zero_le _, rfl⟩
theorem smps_succ (l : List Int) (i : Nat) (h : i < l.length) : (l.take (i + 1)).flatMap Pq.Px.smp = (l.take i).flatMap Pq.Px.smp ++ Pq.Px.smp (l.getD i 0) := by
  rw [take_getD l i h, List.flatMap_append]
  simp
theorem sq_all {G : Hd.H} {l : List Int} (hm : May G) (hl : Fits G l) : ∀ i, i ≤ l.length → Sq G.kd G.m 1 ((l.take i).flatMap Pq.Px.smp) (wAll G l i)
  | 0, _ => by simp [wAll, Sq]
  | i + 1, hi => by
    rw [smps_succ l i (by omega), wAll_succ, List.append_assoc]
    exact (sq_all hm hl i (by omega)).app (sq_pix hm (hl _ (getD_mem (by omega))))
def pst (G : Hd.H) (l : List Int) (W i : Nat) : S := ⟨G, 0, false, [], (l.drop (i / W * W)).take (i % W), ((i / W : Nat) : Int), 0, 0⟩
theorem dm_lt {i W : Nat} (h : i % W + 1 < W) : (i + 1) / W = i / W ∧ (i + 1) % W = i % W + 1 := by
  have h0 := Nat.div_add_mod i W
  have hW : 0 < W := by omega
  have e : i + 1 = W * (i / W) + (i % W + 1) := by omega
  constructor
  · rw [e, Nat.mul_add_div hW, Nat.div_eq_of_lt h, Nat.add_zero]
  · rw [e, Nat.mul_add_mod, Nat.mod_eq_of_lt h]
theorem dm_eq {i W : Nat} (h : i % W + 1 = W) : (i + 1) / W = i / W + 1 ∧ (i + 1) % W = 0 := by
  have h0 := Nat.div_add_mod i W
  have hW : 0 < W := by omega
  have e : i + 1 = W * (i / W + 1) := by rw [Nat.mul_add, Nat.mul_one]; omega
  constructor
  · rw [e, Nat.mul_div_cancel_left _ hW]
  · rw [e, Nat.mul_mod_right]
theorem take_part {l : List Int} {i a r : Nat} (hi : i < l.length) (h : a + r = i) : (l.drop a).take r ++ [l.getD i 0] = (l.drop a).take (r + 1) := by
  rw [List.take_add_one, List.getElem?_drop, h, List.getD_eq_getElem?_getD, List.getElem?_eq_getElem hi]
  rfl
theorem take_join (l : List Int) (a n : Nat) : l.take a ++ (l.drop a).take n = l.take (a + n) := by
  rw [List.take_add]
section
variable {G : Hd.H} {l : List Int} {W H : Nat} (hm : May G) (hl : Fits G l) (hW : G.w = (W : Int)) (hH : G.h = (H : Int)) (hN : l.length = W * H)
include hm hl hW hH hN
theorem tell_pix {i : Nat} (hi : i < l.length) : ∃ ys y, Pq.Px.smp (l.getD i 0) = ys ++ [y] ∧ Live (pst G l W i) ys ∧ (tell (pst G l W i) ys).2 = [] ∧
    (i + 1 < l.length → (sample (tell (pst G l W i) ys).1 y).1 = pst G l W (i + 1)) ∧ (i + 1 = l.length → (sample (tell (pst G l W i) ys).1 y).1.last = 1) ∧ l.take (i / W * W) ++ (sample (tell (pst G l W i) ys).1 y).2 = l.take ((i + 1) / W * W) := by
  have hmm := hm.m
  have h0 := Nat.div_add_mod i W
  have hW0 : 0 < W := by omega
  have hr : i % W < W := Nat.mod_lt _ hW0
  have hc : i / W * W + i % W = i := by rw [Nat.mul_comm]; exact h0
  have hrow : (pst G l W i).row.length = i % W := by show ((l.drop (i / W * W)).take (i % W)).length = _; rw [List.length_take, List.length_drop]; omega
  obtain ⟨ys, y, h1, h2, h3, h4⟩ := pix_tell (s := pst G l W i) hm ⟨rfl, rfl, rfl⟩ rfl (hl _ (getD_mem hi))
  refine ⟨ys, y, h1, h2, h3, ?_⟩
  rw [hrow, show (pst G l W i).h.w = (W : Int) from hW, show (pst G l W i).h.h = (H : Int) from hH] at h4
  have hp := take_part hi hc
  by_cases hx : i % W + 1 < W
  · rw [if_pos (by omega)] at h4
    rw [h4]
    obtain ⟨d1, d2⟩ := dm_lt hx
    refine ⟨fun _ => ?_, fun he => ?_, by simp [d1]⟩
    · unfold pst
      rw [d1, d2, ← hp]
    · exfalso
      have := Nat.mul_mod_right W H
      rw [← hN, ← he, d2] at this
      omega
  · rw [if_neg (by omega)] at h4
    rw [h4]
    have hx1 : i % W + 1 = W := by omega
    obtain ⟨d1, d2⟩ := dm_eq hx1
    have hq : W * (i / W + 1) = i + 1 := by rw [Nat.mul_add, Nat.mul_one]; omega
    refine ⟨fun hlt => ?_, fun he => ?_, ?_⟩
    · have : i / W + 1 < H := by
        apply Nat.lt_of_mul_lt_mul_left (a := W)
        rw [hq, ← hN]; exact hlt
      unfold pst
      simp only [d1, d2]
      rw [if_neg (by omega)]
      simp
    · have : i / W + 1 = H := by
        apply Nat.eq_of_mul_eq_mul_left hW0
        rw [hq, ← hN]; exact he
      show (if (pst G l W i).rows + 1 = (H : Int) then (1 : Int) else 0) = 1
      rw [if_pos (by show ((i / W : Nat) : Int) + 1 = (H : Int); omega)]
    · show l.take (i / W * W) ++ ((l.drop (i / W * W)).take (i % W) ++ [l.getD i 0]) = _
      rw [hp, hx1, take_join, d1, Nat.add_mul, Nat.one_mul]
theorem tell_all : ∀ i, i < l.length → tell (new G) ((l.take i).flatMap Pq.Px.smp) = (pst G l W i, l.take (i / W * W)) ∧ Live (new G) ((l.take i).flatMap Pq.Px.smp)
  | 0, _ => by
    refine ⟨?_, trivial⟩
    simp [tell, pst, new]
  | i + 1, hi => by
    obtain ⟨h1, h2⟩ := tell_all i (by omega)
    obtain ⟨ys, y, k1, k2, k3, k4, k5, k6⟩ := tell_pix hm hl hW hH hN (i := i) (by omega)
    rw [smps_succ l i (by omega), k1]
    have k4 := k4 hi
    constructor
    · rw [tell_app, h1]
      simp only []
      rw [tell_app, k3]
      simp only [tell, List.append_nil, List.nil_append]
      rw [k4, k6]
    · refine live_app _ _ _ h2 ?_
      rw [h1]
      refine live_app _ _ _ k2 ⟨?_, trivial⟩
      rw [k4]; rfl
theorem tell_end : ∃ zs z, l.flatMap Pq.Px.smp = zs ++ [z] ∧ Live (new G) zs ∧ (sample (tell (new G) zs).1 z).1.last = 1 ∧ (tell (new G) (zs ++ [z])).2 = l := by
  have hmm := hm.m
  have hpos : 0 < l.length := by rw [hN]; exact Nat.mul_pos (by omega) (by omega)
  obtain ⟨i, hi⟩ : ∃ i, l.length = i + 1 := ⟨l.length - 1, by omega⟩
  obtain ⟨h1, h2⟩ := tell_all hm hl hW hH hN i (by omega)
  obtain ⟨ys, y, k1, k2, k3, k4, k5, k6⟩ := tell_pix hm hl hW hH hN (i := i) (by omega)
  have hs := smps_succ l i (by omega)
  rw [List.take_of_length_le (show l.length ≤ i + 1 by omega), k1, ← List.append_assoc] at hs
  have he : (i + 1) / W * W = l.length := by rw [← hi, hN, Nat.mul_div_cancel_left _ (by omega), Nat.mul_comm]
  rw [he, List.take_length] at k6
  refine ⟨_, y, hs, ?_, ?_, ?_⟩
  · refine live_app _ _ _ h2 ?_
    rw [h1]; exact k2
  · rw [tell_app, h1]; exact k5 hi.symm
  · rw [tell_app, tell_app, h1]
    simp only []
    rw [k3]
    simp only [tell, List.append_nil]
    exact k6
theorem read_all {b : Nat} {es t : List Int} (he : ∀ e ∈ es, Tk.blank e = true) (hq : Sq G.kd G.m b (l.flatMap Pq.Px.smp) t) :
    ∃ n : Nat, readV G (es ++ t) = (l, (n : Int), 0) ∧ n ≤ es.length + t.length ∧ es.length + t.length ≤ n + b := by
  obtain ⟨zs, z, h1, h2, h3, h4⟩ := tell_end hm hl hW hH hN
  rw [h1] at hq
  have hr : Rdy (new G) := ⟨rfl, rfl, rfl⟩
  obtain ⟨n, k1, k2, k3⟩ := sq_over (s := new G) hr hq h2 h3 (0 + es.length) ([] ++ []) []
  refine ⟨n, ?_, by omega, by omega⟩
  unfold readV
  rw [if_pos hm, (run_blanks hr es he).2]
  simp only [List.append_nil, List.nil_append] at k1 ⊢
  rw [k1, h4]
theorem read_cut {b k : Nat} {t : List Int} (hk : k < l.length) (hq : Sq G.kd G.m b ((l.take k).flatMap Pq.Px.smp) t) : readV G t = ([], 0, 6) ∧ putS (new G) t = pst G l W k := by
  obtain ⟨h1, h2⟩ := tell_all hm hl hW hH hN k hk
  obtain ⟨r1, r2, r3⟩ := sq_run _ t (new G) ⟨rfl, rfl, rfl⟩ hq h2
  rw [h1] at r1
  refine ⟨?_, r1.1⟩
  unfold readV
  rw [if_pos hm]
  have := r1.2 0 [] []
  rw [List.append_nil] at this
  rw [this]
  have hb : put (pst G l W k) 32 = (pst G l W k, []) := put_blank ⟨rfl, rfl, rfl⟩ (by decide)
  have hf : fin (pst G l W k) = (wrong (pst G l W k) 6, []) := by unfold fin; rw [hb]; rfl
  rw [readF_nil hf]
  rfl
end
end Pl
end Go.Proofs.YtkjkepnailamnaaGreat
namespace Go.Proofs.YtkjkepnailamnaaGreat
open Go.RowKit
end Go.Proofs.YtkjkepnailamnaaGreat
namespace Go.Proofs.YtkjkepnailamnaaGreat
open Go.RowKit
set_option linter.unusedVariables false
set_option maxRecDepth 100000 in
set_option maxHeartbeats 8000000 in
theorem refWriteP_any (a : Option Addr) (n cap : Nat) (l : List Int) (G : Hd.H) (hf : Hj.Fit G) (hm : Pl.May G) (hn : n ≤ 1000) (hN : G.w * G.h = (n : Int)) (hl : ∀ p ∈ l, Pq.Px.U p) (w : World) (hs : SlK .u64 w a n l) :
    Calls Tryz.prog 55 #[.slice a n cap, agH G] w fun e w' => e = .returned (Pl.wV G l) ∧ Below w.heap.size w w' := by
  have hmm := hm.m
  have hF := refFormat_any G hm.1
  unfold Hj.fm agH at hF
  have hMY := refPlMay_any G hf
  rw [decide_eq_true hm] at hMY
  unfold agH at hMY
  have HMY := Lib.hid hMY
  have HS := Lib.hid hs
  have HU := Lib.hid hl
  have HL := Lib.hid hs.1
  have HWV : Hid (Pl.wV G l = Pl.wV G l) := Lib.hid rfl
  obtain ⟨V, hV⟩ : ∃ V, Pl.wV G l = V := ⟨_, rfl⟩
  rw [hV]
  have HV := Lib.hid hV
  obtain ⟨C, hC⟩ : ∃ C, Hj.chan G = C := ⟨_, rfl⟩
  rw [hC] at hF
  have HC := Lib.hid hC
  have HF := Lib.hid hF
  have gN : wrap64 (G.w * G.h) = (n : Int) := by rw [hN, IntWalk.wrap64_in] <;> omega
  have gn : ((n : Int) != (n : Int)) = false := by simp
  obtain ⟨gw, hgw⟩ : ∃ gw : Nat, G.w = (gw : Int) := ⟨G.w.toNat, by omega⟩
  have HGW := Lib.hid hgw
  have w1 : ¬ (gw : Int) = 0 := by omega
  have w2 : ((gw : Int) == 0) = false := by simp; omega
  have w3 : ¬ gw = 0 := by omega
  have w4 : (gw == 0) = false := by simp; omega
  have w5 : wrap64 ((gw : Int) - 1) = (gw : Int) - 1 := by rw [IntWalk.wrap64_in] <;> omega
  clear hs hl hV hC hF hf hm hMY hgw
  unfold agH
  go_enter Tryz.func55, Tryz.ntmps55
  go_wp2_with fail
  refine (HMY.out _).mono ?_
  rintro e w1 ⟨rfl, hb⟩
  have HB1 := Lib.hid (((Below.refl _ w).alloc (Nat.le_refl _) _).trans (hb.mono (by simp)))
  have HK1 := Lib.hid ((Hb.new w 112 G).later hb)
  have HS1 := Lib.hid (HS.out.below HB1.out)
  clear hb
  obtain ⟨hb0, hh0⟩ : ∃ k, w.heap.size = k := ⟨_, rfl⟩
  rw [hh0] at HK1 ⊢
  have HH0 := Lib.hid hh0
  clear hh0
  obtain ⟨k0, k1, k2, k3⟩ := HK1.out.cells
  go_wp2_with fail
  clear k0 k1 k2 k3
  go_loopw [7, 8] (fun u7 u8 wr => ∃ i : Nat, i ≤ n ∧ u8 = .int .i64 i ∧ u7 = .string (strOfNums (Pl.wAll G l i)) ∧ (∀ j, j < i → Pq.Px.fitsV (l.getD j 0) C G.m = true) ∧ Below w1.heap.size w1 wr) (fun _ u8 _ => n - (intOf u8).toNat)
  case atStart => exact ⟨0, Nat.zero_le _, rfl, rfl, (fun j hj => absurd hj (Nat.not_lt_zero _)), .refl _ _⟩
  case round =>
    obtain ⟨i, hi, rfl, rfl, hfit, hB⟩ := hrel
    have HB := Lib.hid hB
    have HFIT := Lib.hid hfit
    obtain ⟨k0, k1, k2, k3⟩ := (HK1.out.later hB).cells
    have HBt := Lib.hid (HB1.out.trans (hB.mono HB1.out.size))
    clear hB hfit
    by_cases hlt : i < n
    · obtain ⟨p, hp⟩ : ∃ p, l.getD i 0 = p := ⟨_, rfl⟩
      have hil : i < l.length := by rw [HL.out]; exact hlt
      have hU : Pq.Px.U p := by rw [← hp]; exact HU.out _ (getD_mem hil)
      have HZ := Lib.hid (Pl.wAll_succ G l i)
      have hAL := Pl.wAll_len (G := G) HU.out i (by omega)
      have hsi := Pl.smp_in hU
      have HI := Lib.hid (Pl.smp_I hU)
      have HUP := Lib.hid (fun W => Pq.refUnpack_any p hU W)
      obtain ⟨F, hF⟩ : ∃ F, Pq.Px.fitsV p C G.m = F := ⟨_, rfl⟩
      have HFT : Hid (∀ W, Calls Tryz.prog 73 #[.int .u64 p, .agg #[.int .i64 C, .int .i64 G.m]] W fun e w' => e = .returned (.bool F) ∧ Below W.heap.size W w') := Lib.hid fun W => by rw [← hF]; exact Pq.refFits_any p C G.m hU W
      obtain ⟨zs, hzs⟩ : ∃ zs, Pq.Px.smp p = zs := ⟨_, rfl⟩
      obtain ⟨A, hA⟩ : ∃ A, Pl.wAll G l i = A := ⟨_, rfl⟩
      rw [hp, hzs, hA] at HZ
      rw [hzs] at HI HUP hsi
      rw [hA] at hAL ⊢
      obtain ⟨m, hm⟩ : ∃ m, zs.length = m := ⟨_, rfl⟩
      have HML := Lib.hid hm
      have hm3 : m ≤ 3 := by have := hsi.1; omega
      have HFF := Lib.hid (show Pq.Px.fitsV (l.getD i 0) C G.m = F by rw [hp]; exact hF)
      obtain ⟨blk, off, ha, c0⟩ : ∃ blk off, a = some ⟨blk, off, none⟩ ∧ wr.cell? ⟨blk, off + i, none⟩ = some (.int .u64 p) := by
        rcases HS.out.2 with h | ⟨blk, off, rfl, hc⟩
        · omega
        · exact ⟨blk, off, rfl, cell_later HBt.out (by rw [hc i hlt, hp])⟩
      subst ha
      have hBt := Below.refl wr.heap.size wr
      have HAL := Lib.hid hAL
      have HIL := Lib.hid hil
      have HWR := Lib.hid (show i < n from hlt)
      clear hp hU hsi hzs hA hm hil hF hAL
      go_wp2_with fail
      go_cut [9] (fun s9 wx => s9 = .bool F ∧ Below wr.heap.size wr wx)
      case first =>
        go_region_held3 (fun w' => w'.cell? ⟨hb0, 0, none⟩ = some (.int .i64 G.kd) ∧ w'.cell? ⟨hb0, 1, none⟩ = some (.int .i64 G.w) ∧ w'.cell? ⟨hb0, 2, none⟩ = some (.int .i64 G.h) ∧ w'.cell? ⟨hb0, 3, none⟩ = some (.int .i64 G.m) ∧ w'.cell? ⟨blk, off + i, none⟩ = some (.int .u64 p))
          (first | exact ⟨k0, k1, k2, k3, c0⟩ | exact ⟨cell_later (by repeat' (first | (with_reducible first | exact hBt | refine Below.alloc ?_ ?_ _ | refine Below.drew ?_ | refine below_drewN ?_ _ | refine Below.setCell ?_ ?_ _) | exact hBt.size | (have := hBt.size; first | omega | (simp; done) | (simp; omega)))) k0, cell_later (by repeat' (first | (with_reducible first | exact hBt | refine Below.alloc ?_ ?_ _ | refine Below.drew ?_ | refine below_drewN ?_ _ | refine Below.setCell ?_ ?_ _) | exact hBt.size | (have := hBt.size; first | omega | (simp; done) | (simp; omega)))) k1, cell_later (by repeat' (first | (with_reducible first | exact hBt | refine Below.alloc ?_ ?_ _ | refine Below.drew ?_ | refine below_drewN ?_ _ | refine Below.setCell ?_ ?_ _) | exact hBt.size | (have := hBt.size; first | omega | (simp; done) | (simp; omega)))) k2, cell_later (by repeat' (first | (with_reducible first | exact hBt | refine Below.alloc ?_ ?_ _ | refine Below.drew ?_ | refine below_drewN ?_ _ | refine Below.setCell ?_ ?_ _) | exact hBt.size | (have := hBt.size; first | omega | (simp; done) | (simp; omega)))) k3, cell_later (by repeat' (first | (with_reducible first | exact hBt | refine Below.alloc ?_ ?_ _ | refine Below.drew ?_ | refine below_drewN ?_ _ | refine Below.setCell ?_ ?_ _) | exact hBt.size | (have := hBt.size; first | omega | (simp; done) | (simp; omega)))) c0⟩)
          (first
            | (go_at_call 62; refine (HF.out _).mono ?_; rintro e w9 ⟨rfl, hb9⟩; replace hBt := bel_step (w := wr) (by repeat' (first | (with_reducible first | exact hBt | refine Below.alloc ?_ ?_ _ | refine Below.drew ?_ | refine below_drewN ?_ _ | refine Below.setCell ?_ ?_ _) | exact hBt.size | (have := hBt.size; first | omega | (simp; done) | (simp; omega)))) hb9; have hsz9 := hBt.size)
            | (go_at_call 73; refine (HFT.out _).mono ?_; rintro e w9 ⟨rfl, hb9⟩; replace hBt := bel_step (w := wr) (by repeat' (first | (with_reducible first | exact hBt | refine Below.alloc ?_ ?_ _ | refine Below.drew ?_ | refine below_drewN ?_ _ | refine Below.setCell ?_ ?_ _) | exact hBt.size | (have := hBt.size; first | omega | (simp; done) | (simp; omega)))) hb9; have hsz9 := hBt.size))
        all_goals
          go_wp2_with fail
          go_meet
          case rel => exact ⟨rfl, hBt⟩
      case rest =>
        obtain ⟨rfl, hbx⟩ := hcut
        have HBX := Lib.hid hbx
        replace k0 := cell_later hbx k0; replace k1 := cell_later hbx k1; replace k2 := cell_later hbx k2; replace k3 := cell_later hbx k3; replace c0 := cell_later hbx c0
        clear hbx hBt HF HFT HMY
        cases F with
        | false =>
          have HVV : Hid (V = .tuple #[.string ⟨#[]⟩, .int .i64 1]) := by
            refine Lib.hid ?_
            rw [← HV.out]; unfold Pl.wV
            rw [Pl.fitAll_no HIL.out (by rw [HC.out]; exact HFF.out)]; rfl
          go_wp2_with fail
          go_ret2
          rw [HVV.out]
          exact ⟨rfl, HBt.out.trans (HBX.out.mono HBt.out.size)⟩
        | true =>
          go_wp2_with fail
          refine (HUP.out _).mono ?_
          rintro e w2 ⟨ad, cp, rfl, hO, hb2⟩
          rw [HML.out]
          have HO := Lib.hid hO.sl
          have HB2 := Lib.hid hb2
          replace k0 := cell_later hb2 k0; replace k1 := cell_later hb2 k1; replace k2 := cell_later hb2 k2; replace k3 := cell_later hb2 k3
          have K0 := Lib.hid k0; have K1 := Lib.hid k1; have K2 := Lib.hid k2; have K3 := Lib.hid k3
          have HWL : Hid (A.length ≤ 202000) := Lib.hid (by have := HAL.out; omega)
          clear hO hb2 c0 k0 k1 k2 k3
          go_wp2_with fail
          go_loopw [7, 11] (fun u7 u11 wi => ∃ j : Nat, j ≤ m ∧ u11 = .int .i64 j ∧ u7 = .string (strOfNums (A ++ Pl.wTk zs j)) ∧ Below w2.heap.size w2 wi) (fun _ u11 _ => m - (intOf u11).toNat)
          case atStart => exact ⟨0, Nat.zero_le _, rfl, by simp [Pl.wTk], .refl _ _⟩
          case round =>
            obtain ⟨j, hj, rfl, rfl, hC⟩ := hrel
            have HCB := Lib.hid hC
            clear hC
            by_cases hjt : j < m
            · obtain ⟨z, hz⟩ : ∃ z, zs.getD j 0 = z := ⟨_, rfl⟩
              have hjl : j < zs.length := by rw [HML.out]; exact hjt
              have hzI : Nu.I z := by rw [← hz]; exact HI.out _ (getD_mem hjl)
              have HY := Lib.hid (Pl.wTk_succ zs j)
              rw [hz, HML.out] at HY
              have HDC := Lib.hid (fun W => refDecimal_any z hzI W)
              have hTL := Pl.wTk_len HI.out j (by omega)
              have hDL := Nu.decV_len hzI
              obtain ⟨T, hT⟩ : ∃ T, strOfNums (A ++ Pl.wTk zs j) = T := ⟨_, rfl⟩
              obtain ⟨D, hD⟩ : ∃ D, strOfNums (Nu.decV z) = D := ⟨_, rfl⟩
              have hTs : T.size ≤ 203000 := by rw [← hT, strOfNums_size, List.length_append]; have := HWL.out; omega
              have hDs : D.size ≤ 66 := by rw [← hD, strOfNums_size]; exact hDL
              have L1 : ¬ 9223372036854775807 < T.size + D.size := by omega
              have L2 : ¬ 9223372036854775807 < T.size + D.size + 1 := by omega
              rw [hD] at HDC
              rw [hT]
              have HT := Lib.hid hT; have HD := Lib.hid hD
              obtain ⟨b2, o2, rfl, hcell⟩ : ∃ blk off, ad = some ⟨blk, off, none⟩ ∧ wr.cell? ⟨blk, off + j, none⟩ = some (.int .i64 z) := by
                rcases HO.out.2 with h | ⟨blk, off, rfl, hc⟩
                · rw [HML.out] at h; omega
                · exact ⟨blk, off, rfl, cell_later HCB.out (by rw [hc j (by rw [HML.out]; exact hjt), hz])⟩
              have g1 : wrap64 ((m : Int) - 1) = (m : Int) - 1 := by rw [IntWalk.wrap64_in] <;> omega
              clear hz hjl hzI hTL hDL hT hD
              by_cases hj1 : j + 1 < m
              · have hj2 : (j : Int) < (m : Int) - 1 := by omega
                have HYY : Hid (T ++ D ++ ⟨#[32]⟩ = strOfNums (A ++ Pl.wTk zs (j + 1))) := Lib.hid (by rw [HY.out, if_pos hj1, ← HT.out, ← HD.out, Pl.str32]; simp only [strOfNums_append, List.append_assoc, ByteArray.append_assoc])
                go_wp2_with (go_at_call 89; refine (HDC.out _).mono ?_; rintro e w3 ⟨rfl, hb3⟩; have HB3 := Lib.hid hb3; clear hb3)
                go_roundw
                case rel => exact ⟨j + 1, by omega, by go_num, by rw [← HYY.out], HCB.out.trans (HB3.out.mono HCB.out.size)⟩
                case measure => simp [intOf]; omega
              · have hj2 : ¬ (j : Int) < (m : Int) - 1 := by omega
                have HYY : Hid (T ++ D = strOfNums (A ++ Pl.wTk zs (j + 1))) := Lib.hid (by rw [HY.out, if_neg hj1, ← HT.out, ← HD.out]; simp only [strOfNums_append, List.append_nil, ByteArray.append_assoc])
                go_wp2_with (go_at_call 89; refine (HDC.out _).mono ?_; rintro e w3 ⟨rfl, hb3⟩; have HB3 := Lib.hid hb3; clear hb3)
                go_roundw
                case rel => exact ⟨j + 1, by omega, by go_num, by rw [← HYY.out], HCB.out.trans (HB3.out.mono HCB.out.size)⟩
                case measure => simp [intOf]; omega
            · have hje : j = m := by omega
              subst hje
              obtain ⟨k0, k1, k2, k3⟩ : _ ∧ _ ∧ _ ∧ _ := ⟨cell_later HCB.out K0.out, cell_later HCB.out K1.out, cell_later HCB.out K2.out, cell_later HCB.out K3.out⟩
              rw [HGW.out] at k1
              have hTL := Pl.wTk_len HI.out j (by rw [HML.out]; omega)
              have HY := HZ.out
              rw [HML.out] at HY
              obtain ⟨T, hT⟩ : ∃ T, strOfNums (A ++ Pl.wTk zs j) = T := ⟨_, rfl⟩
              have hTs : T.size ≤ 203000 := by rw [← hT, strOfNums_size, List.length_append]; have := HWL.out; omega
              have L1 : ¬ 9223372036854775807 < T.size + 1 := by omega
              rw [hT]
              have HT := Lib.hid hT
              have HYS := Lib.hid HY
              have hw1 : Pl.wLn G i = Pl.wLn G i := rfl
              clear hT hTL HY hw1
              have FITN : Hid (∀ j, j < i + 1 → Pq.Px.fitsV (l.getD j 0) C G.m = true) := Lib.hid fun j hj => by
                by_cases he : j = i
                · rw [he]; exact HFF.out
                · exact HFIT.out j (by omega)
              have BN := Lib.hid (HBX.out.trans ((HB2.out.trans (HCB.out.mono HB2.out.size)).mono HBX.out.size))
              go_wp2_with fail
              all_goals
                go_roundw
                case rel =>
                  first
                    | exact ⟨i + 1, by omega, by go_num, by rw [HYS.out, Pl.ln_yes1 (by assumption), if_pos rfl, ← HT.out, Pl.str10, ← strOfNums_append], FITN.out, HB.out.trans (BN.out.mono HB.out.size)⟩
                    | exact ⟨i + 1, by omega, by go_num, by rw [HYS.out, Pl.ln_yes2 HGW.out (by assumption), if_pos rfl, ← HT.out, Pl.str10, ← strOfNums_append], FITN.out, HB.out.trans (BN.out.mono HB.out.size)⟩
                    | exact ⟨i + 1, by omega, by go_num, by rw [HYS.out, Pl.ln_yes3 HGW.out (by assumption), if_pos rfl, ← HT.out, Pl.str10, ← strOfNums_append], FITN.out, HB.out.trans (BN.out.mono HB.out.size)⟩
                    | exact ⟨i + 1, by omega, by go_num, by rw [HYS.out, Pl.ln_no HGW.out (by assumption), ← HT.out]; simp, FITN.out, HB.out.trans (BN.out.mono HB.out.size)⟩
                case measure => simp [intOf]; omega
    · have hin : i = n := by omega
      subst hin
      have HVV : Hid (V = .tuple #[.string (strOfNums (Pl.wAll G l i)), .int .i64 0]) := by
        refine Lib.hid ?_
        rw [← HV.out]; unfold Pl.wV
        rw [Pl.fitAll_yes (fun j hj => by rw [HC.out]; exact HFIT.out j (by rw [HL.out] at hj; exact hj)), if_pos rfl, HL.out]
      go_wp2_with fail
      go_ret2
      rw [HVV.out]
      exact ⟨rfl, HBt.out⟩
end Go.Proofs.YtkjkepnailamnaaGreat
namespace Go.Proofs.YtkjkepnailamnaaGreat
open Go.RowKit
set_option linter.unusedVariables false
namespace Pl
theorem wAll_bytes {G : Hd.H} {l : List Int} (hl : Fits G l) : ∀ i, i ≤ l.length → ∀ x ∈ wAll G l i, 0 ≤ x ∧ x ≤ 255
  | 0, _, x, h => by cases h
  | i + 1, hi, x, h => by
    have ht : ∀ (zs : List Int) k, ∀ x ∈ wTk zs k, 0 ≤ x ∧ x ≤ 255 := by
      intro zs k
      induction k with
      | zero => intro x h; cases h
      | succ k ih =>
        intro x h
        rw [wTk_succ] at h
        rcases List.mem_append.1 h with h | h
        · rcases List.mem_append.1 h with h | h
          · exact ih x h
          · exact Nu.decV_bytes _ x h
        · split at h
          · rw [List.mem_singleton.1 h]; omega
          · cases h
    rw [wAll_succ] at h
    rcases List.mem_append.1 h with h | h
    · rcases List.mem_append.1 h with h | h
      · exact wAll_bytes hl i (by omega) x h
      · exact ht _ _ x h
    · split at h
      · rw [List.mem_singleton.1 h]; omega
      · cases h
theorem fits_all {G : Hd.H} {l : List Int} (hm : May G) (hl : Fits G l) : fitAll G l = true := by
  unfold fitAll
  rw [List.all_eq_true]
  intro p hp
  have := hm.m
  exact fits_true (hl p hp) (by omega) (by omega)
end Pl
end Go.Proofs.YtkjkepnailamnaaGreat
namespace Go.Proofs.YtkjkepnailamnaaGreat
open Go.RowKit
set_option linter.unusedVariables false
theorem wpList_app1 {P : Program} {w : World} {ops : Array Oper} {rest : List Oper} {o : Oper} {a : Act} {Q : Exit → Act → World → Prop} (hgd : o.guard = none) (s x : Operand) (t : TypeId)
    (ho : o.op = .call { callee := .builtin .append, args := #[s, x], argTypes := #[t, t] })
    (base : Nat) (e : TypeId) (i : TypeInfo) (z : Value) (bytes : Nat) (ht : P.underlying t = some (.slice e)) (hi : P.info? e = some i) (hz : i.zero = some z) (hzc : z.cells.size = 1)
    (hsize : i.size = 1) (hby : i.bytes = bytes) (v : Value) (n : Nat) (xs : List Value) (hs : a.eval s = v) (hown : w.ownsRow base e 1 v n xs)
    (g : Nat) (y : Value) (hyc : y.oneCell' = true) (hx : a.eval x = .slice (some ⟨g, 0, none⟩) 1 1) (hy : w.cell? ⟨g, 0, none⟩ = some y) (h63 : n + 1 ≤ maxLen) (hbytes : (n + 1) * bytes ≤ 140737488355328) (hbase : base ≤ w.heap.size)
    (h : ∀ v' w', w'.ownsRow base e 1 v' (n + 1) (xs ++ [y]) → w.grownBy w' v.ownBlock → (v'.ownBlock = v.ownBlock ∨ v'.ownBlock = some w.heap.size) → wpList P ops Q rest (a.put o.dst v') w') : wpList P ops Q (o :: rest) a w := by
  refine wpList_plain hgd fun K hK => ?_
  obtain ⟨v', w', hr, h2, h3, _, h4⟩ := run_append_own_at (P := P) w base t o.type e i z 1 bytes ht hi hz hsize hby hzc (by decide) v n xs hown ⟨g, 0, none⟩ 1 1 [y] (by simp) (fun j u hu => by
      cases j with
      | zero => simp at hu; subst hu; simpa [Addr.add] using hy
      | succ j => simp at hu) (fun u hu => by rw [List.mem_singleton.1 hu]; exact hyc) h63 hbytes hbase
  unfold Oper.wp execOp
  simp only [ho, resolve, invoke, builtin, Sem.run_bind, Sem.run_pure, Result.andThen_ok, List.map_toArray, List.map_cons, List.map_nil, hs, hx, hr]
  exact hK _ _ (h v' w' h2 h3 h4)
def RowS (W : World) (v : Value) (g m : Nat) (zs : List Int) : Prop := SlK .i64 W (some ⟨g, 0, none⟩) m zs ∧ g < W.heap.size ∧ v.ownBlock ≠ some g
theorem RowS.later {W W' : World} {v : Value} {g m : Nat} {zs : List Int} (h : RowS W v g m zs) (hb : Below W.heap.size W W') : RowS W' v g m zs := ⟨h.1.below hb, Nat.lt_of_lt_of_le h.2.1 hb.size, h.2.2⟩
theorem RowS.grown {W w' : World} {v v' : Value} {g m : Nat} {zs : List Int} (h : RowS W v g m zs) (hg : W.grownBy w' v.ownBlock) (hat : v'.ownBlock = v.ownBlock ∨ v'.ownBlock = some W.heap.size) : RowS w' v' g m zs := by
  obtain ⟨⟨h1, h2⟩, h3, h4⟩ := h
  refine ⟨⟨h1, ?_⟩, ?_, ?_⟩
  · rcases h2 with h2 | ⟨b, o, e, hc⟩
    · exact .inl h2
    · refine .inr ⟨b, o, e, fun i hi => ?_⟩
      cases e
      rw [hg.cell_far ⟨g, 0 + i, none⟩ h3 (fun e => h4 e.symm)]
      exact hc i hi
  · exact Nat.lt_of_lt_of_le h3 hg.size
  · intro e
    rcases hat with k | k
    · exact h4 (k.symm.trans e)
    · rw [k] at e; injection e with e; omega
theorem smps_len {G : Hd.H} {l : List Int} (hl : Pl.Fits G l) : ((l.flatMap Pq.Px.smp).length) ≤ 3 * l.length := by
  induction l with
  | nil => simp
  | cons p l ih =>
    have h1 := (Pl.smp_in (Pq.goodU (hl p (List.mem_cons_self ..)))).1
    have h2 := ih fun q hq => hl q (List.mem_cons_of_mem _ hq)
    rw [List.flatMap_cons, List.length_append, List.length_cons]; omega
end Go.Proofs.YtkjkepnailamnaaGreat
namespace Go.Proofs.YtkjkepnailamnaaGreat
open Go.RowKit
set_option linter.unusedVariables false
set_option maxRecDepth 100000 in
set_option maxHeartbeats 4000000 in
theorem rwFit_any (a : Option Addr) (n cap : Nat) (l : List Int) (G : Hd.H) (hn : n ≤ 9223372036854775807) (hl : ∀ p ∈ l, Pq.Px.U p) (w : World) (hs : SlK .u64 w a n l) :
    Calls Tryz.prog 155 #[.slice a n cap, .agg #[.int .i64 (Hj.chan G), .int .i64 G.m]] w fun e w' => e = .returned (.bool (Pl.fitAll G l)) ∧ Below w.heap.size w w' := by
  obtain ⟨V, hV⟩ : ∃ V, Pl.fitAll G l = V := ⟨_, rfl⟩
  rw [hV]
  have HV := Lib.hid hV
  have HS := Lib.hid hs
  have HU := Lib.hid hl
  have HL := Lib.hid hs.1
  obtain ⟨C, hC⟩ : ∃ C, Hj.chan G = C := ⟨_, rfl⟩
  rw [hC]
  have HC := Lib.hid hC
  have hlen0 : ¬ (n : Int) < 0 := by omega
  clear hs hl hV hC
  go_enter Tryz.func155, Tryz.ntmps155
  go_upto_region 1 with fail
  generalize hW : w.alloc (.cells #[.int .i64 C, .int .i64 G.m] 29) = w1
  have HB1 : Hid (Below w.heap.size w w1) := by show Below _ _ _; rw [← hW]; exact box1' _ _
  have hf0 : w1.cell? ⟨w.heap.size, 0, none⟩ = some (.int .i64 C) := by rw [← hW]; simp [go_sem]
  have hf1 : w1.cell? ⟨w.heap.size, 1, none⟩ = some (.int .i64 G.m) := by rw [← hW]; simp [go_sem]
  obtain ⟨fb, hfb⟩ : ∃ k, w.heap.size = k := ⟨_, rfl⟩
  rw [hfb] at hf0 hf1
  have hfl : fb < w1.heap.size := by rw [← hfb, ← hW]; simp
  have HF0 := Lib.hid hf0; have HF1 := Lib.hid hf1
  have HFB := Lib.hid hfb
  clear hW hf0 hf1
  rw [hfb]
  clear hfb
  go_wp2_with fail
  go_loopw [9] (fun u9 wr => ∃ i : Nat, i ≤ n ∧ u9 = .int .i64 i ∧ (∀ j, j < i → Pq.Px.fitsV (l.getD j 0) C G.m = true) ∧ Below w1.heap.size w1 wr) (fun u9 _ => n - (intOf u9).toNat)
  case atStart => exact ⟨0, Nat.zero_le _, rfl, (fun j hj => absurd hj (Nat.not_lt_zero _)), .refl _ _⟩
  case round =>
    obtain ⟨i, hi, rfl, hfit, hB⟩ := hrel
    have HB := Lib.hid hB
    have HFIT := Lib.hid hfit
    have f0 := cell_later hB HF0.out
    have f1 := cell_later hB HF1.out
    clear hB hfit
    by_cases hlt : i < n
    · have hil : i < l.length := by rw [HL.out]; exact hlt
      obtain ⟨p, hp⟩ : ∃ p, l.getD i 0 = p := ⟨_, rfl⟩
      have hU : Pq.Px.U p := by rw [← hp]; exact HU.out _ (getD_mem hil)
      obtain ⟨F, hF⟩ : ∃ F, Pq.Px.fitsV p C G.m = F := ⟨_, rfl⟩
      have HFT : Hid (∀ W, Calls Tryz.prog 111 #[.int .u64 p, .agg #[.int .i64 C, .int .i64 G.m]] W fun e w' => e = .returned (.bool F) ∧ Below W.heap.size W w') := Lib.hid fun W => by rw [← hF]; exact Pq.fits_any p C G.m hU W
      have HFF := Lib.hid (show Pq.Px.fitsV (l.getD i 0) C G.m = F by rw [hp]; exact hF)
      obtain ⟨blk, off, ha, c0⟩ : ∃ blk off, a = some ⟨blk, off, none⟩ ∧ wr.cell? ⟨blk, off + i, none⟩ = some (.int .u64 p) := by
        rcases HS.out.2 with h | ⟨blk, off, rfl, hc⟩
        · omega
        · exact ⟨blk, off, rfl, cell_later (HB1.out.trans (HB.out.mono HB1.out.size)) (by rw [hc i hlt, hp])⟩
      subst ha
      have HIL := Lib.hid hil
      clear hp hU hF hil
      cases F with
      | false =>
        have HVV : Hid (V = false) := by
          refine Lib.hid ?_
          rw [← HV.out]
          exact Pl.fitAll_no HIL.out (by rw [HC.out]; exact HFF.out)
        go_wp2_with fail
        refine (HFT.out _).mono ?_
        rintro e w2 ⟨rfl, hb⟩
        have HB2 := Lib.hid hb
        clear hb
        go_wp2_with fail
        go_ret
        rw [HVV.out]
        exact ⟨rfl, HB1.out.trans ((HB.out.trans (HB2.out.mono HB.out.size)).mono HB1.out.size)⟩
      | true =>
        go_wp2_with fail
        refine (HFT.out _).mono ?_
        rintro e w2 ⟨rfl, hb⟩
        have HB2 := Lib.hid hb
        clear hb
        have FITN : Hid (∀ j, j < i + 1 → Pq.Px.fitsV (l.getD j 0) C G.m = true) := Lib.hid fun j hj => by
          by_cases he : j = i
          · rw [he]; exact HFF.out
          · exact HFIT.out j (by omega)
        go_wp2_with fail
        go_roundw
        case rel => exact ⟨i + 1, by omega, by go_num, FITN.out, HB.out.trans (HB2.out.mono HB.out.size)⟩
        case measure => simp [intOf]; omega
    · have hin : i = n := by omega
      subst hin
      have HVV : Hid (V = true) := by
        refine Lib.hid ?_
        rw [← HV.out]
        exact Pl.fitAll_yes (fun j hj => by rw [HC.out]; exact HFIT.out j (by rw [HL.out] at hj; exact hj))
      go_wp2_with fail
      go_ret
      rw [HVV.out]
      exact ⟨rfl, HB1.out.trans (HB.out.mono HB1.out.size)⟩
end Go.Proofs.YtkjkepnailamnaaGreat
namespace Go.Proofs.YtkjkepnailamnaaGreat
open Go.RowKit Go.Shelf
set_option linter.unusedVariables false
def ChMade (v : Value) (c : Nat) (w : World) (e : Ending) (w' : World) : Prop :=
  ∃ nb bb, e = .returned (.func (.func 184) #[] #[.pointer (some ⟨nb, 0, none⟩), .pointer (some ⟨bb, 0, none⟩)]) ∧ nb ≠ bb ∧ w.heap.size ≤ nb ∧ w.heap.size ≤ bb ∧ nb < w'.heap.size ∧ bb < w'.heap.size ∧
    w'.cell? ⟨nb, 0, none⟩ = some v ∧ w'.cell? ⟨bb, 0, none⟩ = some (.int .i64 c) ∧ Below w.heap.size w w'
theorem ch_made (a : Option Addr) (len cap c : Nat) (hc : 1 ≤ c) (w : World) : Calls Tryz.prog 156 #[.slice a len cap, .int .i64 c] w (ChMade (.slice a len cap) c w) := by
  have h1 : ¬ (c : Int) < 1 := by omega
  go_enter Tryz.func156, Tryz.ntmps156
  go_wp2
  go_ret
  exact ⟨_, _, rfl, by omega, by omega, by omega, by first | (simp; done) | (simp; omega), by first | (simp; done) | (simp; omega), by simp [go_sem], by simp [go_sem], by go_grown⟩
end Go.Proofs.YtkjkepnailamnaaGreat
namespace Go.Proofs.YtkjkepnailamnaaGreat
open Go.RowKit Go.Shelf
attribute [local go_sem] Oper.semAt_some
set_option linter.unusedVariables false
namespace Bt
def partCh (n c k : Nat) : Nat := min c (n - c * k)
def encCh (b o n c : Nat) (k : Nat) : Array Value := #[.slice (some ⟨b, o + c * k, none⟩) (partCh n c k) (partCh n c k)]
set_option maxRecDepth 100000 in
set_option maxHeartbeats 2000000 in
theorem ch_gives (n m c cap b o nb bb : Nat) (hc1 : 1 ≤ c) (hn : 1 ≤ n) (hm1 : n ≤ c * m) (hm2 : c * m < n + c) (hnc : n ≤ cap) (hc : cap ≤ 9223372036854775807) (h9 : n ≤ 4096) (hc9 : c ≤ 4096) (hne : nb ≠ bb) (W0 : World) (q : Nat) (hq : 1 ≤ q)
    (cn : W0.cell? ⟨nb, 0, none⟩ = some (.slice (some ⟨b, o, none⟩) n cap)) (cb : W0.cell? ⟨bb, 0, none⟩ = some (.int .i64 c)) :
    Gives Fence.wide q Tryz.prog 184 #[.pointer (some ⟨nb, 0, none⟩), .pointer (some ⟨bb, 0, none⟩)] (encCh b o n c) (fun k => k = nb ∨ k = bb) (List.range m) W0 := by
  intro l J Jx W hW hJ hJx hY h00
  have cn1 := hW.cell (.inl rfl) cn
  have cb1 := hW.cell (.inr rfl) cb
  clear cn cb hW
  have HY := Lib.hid hY; clear hY
  refine callsIn_of_wp Tryz.func184 rfl trivial ?_ rfl
  simp only [Tryz.ntmps184, List.size_toArray, List.length_cons, List.length_nil, Nat.reduceAdd, Nat.reduceSub, Array.replicate_succ, Array.replicate_zero, List.push_toArray, List.append_toArray, List.nil_append, List.cons_append]
  gi_wp2
  gi_loopw [4] (fun i wr => ∃ k : Nat, k ≤ m ∧ i = .int .i64 ((c * k : Nat) : Int) ∧ J ((List.range m).take k) wr ∧ wr.cell? ⟨nb, 0, none⟩ = some (.slice (some ⟨b, o, none⟩) n cap) ∧ wr.cell? ⟨bb, 0, none⟩ = some (.int .i64 c)) (fun i _ => ((c * m : Nat) - intOf i).toNat)
  case atStart => exact ⟨0, Nat.zero_le _, by simp, by simpa using h00, cn1, cb1⟩
  case round =>
    obtain ⟨k, hk, rfl, hj, c1, c2⟩ := hrel
    clear cn1 cb1 h00
    by_cases hlt : k < m
    · obtain ⟨I, hI⟩ : ∃ I : Nat, c * k = I := ⟨_, rfl⟩
      have hk1 : c * (k + 1) ≤ c * m := Nat.mul_le_mul_left _ hlt
      have hk2 : c * (k + 1) = I + c := by rw [Nat.mul_succ, hI]
      have hi0 : (I : Int) < n := by omega
      have hi1 : (0 : Int) ≤ k := Int.natCast_nonneg _
      rw [hI]
      have hic : ¬ cap = I := by omega
      have hi3 : (0 : Int) ≤ I := Int.natCast_nonneg _
      have HI := Lib.hid hI; have HI2 := Lib.hid hk2; have HK1 := Lib.hid hk1
      clear hk1 hk2
      by_cases h8 : I + c ≤ n
      · skip
        have hpl : partCh n c k = c := by unfold partCh; rw [hI]; omega
        have hy0 := HY.out _ _ _ wr.drew (rng_get m k hlt) (hJ _ _ _ hj (.drew _ _))
        have HNX := Lib.hid (rng_next m k hlt)
        rw [show encCh b o n c k = #[.slice (some ⟨b, o + I, none⟩) c c] by unfold encCh; rw [hpl, hI]] at hy0
        obtain ⟨fn, tmps, assign, body, hy, hR⟩ := hy0
        have d1 : wr.drew.cell? ⟨nb, 0, none⟩ = some (.slice (some ⟨b, o, none⟩) n cap) := c1
        have d2 : wr.drew.cell? ⟨bb, 0, none⟩ = some (.int .i64 c) := c2
        have hmn : min (c : Int) ((n - I : Nat) : Int) = (c : Int) := by omega
        clear hpl hI
        gi_wp2
        gi_region
        gi_wp2
        refine hR.mono ?_
        rintro e W3 ⟨hh, (⟨rfl, hJ3⟩ | ⟨rfl, hJx3⟩)⟩
        · have c13 := hh.cell (.inl rfl) d1
          have c23 := hh.cell (.inr rfl) d2
          clear hR hy c1 c2 d1 d2
          gi_wp2
          go_roundw
          case rel => exact ⟨k + 1, by omega, by rw [HI2.out]; go_num, by rw [← HNX.out]; exact hJ3, c13, c23⟩
          case measure => have h2 := HI2.out; have h1 := HK1.out; rw [h2] at h1; simp [intOf]; omega
        · gi_wp2
          refine bodyPost_ret (results_none rfl _ _ _) rfl ?_
          exact ⟨⟨_, rfl⟩, .inr ⟨_, by rw [HNX.out]; exact List.take_prefix _ _, hJx3⟩⟩
      · obtain ⟨p, hp⟩ : ∃ p, n - I = p := ⟨_, rfl⟩
        have p1 : 1 ≤ p := by omega
        have p8 : p < c := by omega
        have hpl : partCh n c k = p := by unfold partCh; rw [hI]; omega
        have hy0 := HY.out _ _ _ wr.drew (rng_get m k hlt) (hJ _ _ _ hj (.drew _ _))
        have HNX := Lib.hid (rng_next m k hlt)
        rw [show encCh b o n c k = #[.slice (some ⟨b, o + I, none⟩) p p] by unfold encCh; rw [hpl, hI]] at hy0
        obtain ⟨fn, tmps, assign, body, hy, hR⟩ := hy0
        have d1 : wr.drew.cell? ⟨nb, 0, none⟩ = some (.slice (some ⟨b, o, none⟩) n cap) := c1
        have d2 : wr.drew.cell? ⟨bb, 0, none⟩ = some (.int .i64 c) := c2
        have hmn : min (c : Int) ((n - I : Nat) : Int) = (p : Int) := by omega
        have hmn2 : min (c : Int) (p : Int) = (p : Int) := by omega
        clear hpl hI
        gi_wp2
        gi_region
        gi_wp2
        refine hR.mono ?_
        rintro e W3 ⟨hh, (⟨rfl, hJ3⟩ | ⟨rfl, hJx3⟩)⟩
        · have c13 := hh.cell (.inl rfl) d1
          have c23 := hh.cell (.inr rfl) d2
          clear hR hy c1 c2 d1 d2
          gi_wp2
          go_roundw
          case rel => exact ⟨k + 1, by omega, by rw [HI2.out]; go_num, by rw [← HNX.out]; exact hJ3, c13, c23⟩
          case measure => have h2 := HI2.out; have h1 := HK1.out; rw [h2] at h1; simp [intOf]; omega
        · gi_wp2
          refine bodyPost_ret (results_none rfl _ _ _) rfl ?_
          exact ⟨⟨_, rfl⟩, .inr ⟨_, by rw [HNX.out]; exact List.take_prefix _ _, hJx3⟩⟩
    · obtain rfl : k = m := by omega
      have hi0 : ¬ ((c * k : Nat) : Int) < n := by omega
      obtain ⟨I, hI⟩ : ∃ I : Nat, c * k = I := ⟨_, rfl⟩
      rw [hI] at hi0 ⊢
      gi_wp2
      go_end0
      exact ⟨⟨_, rfl⟩, .inl (by rw [List.take_of_length_le (by simp)] at hj; exact hj)⟩
end Bt
end Go.Proofs.YtkjkepnailamnaaGreat
namespace Go.Proofs.YtkjkepnailamnaaGreat
open Go.RowKit
set_option linter.unusedVariables false
def Cp (n c : Nat) : Prop := n ≤ c ∧ c ≤ 9223372036854775807
def RdRc (t : List Int × Int × Int) (w : World) (e : Ending) (w' : World) : Prop :=
  ∃ a c, e = .returned (.tuple #[.slice a t.1.length c, .int .i64 t.2.1, .int .i64 t.2.2]) ∧ SlK .u64 w' a t.1.length t.1 ∧ Below w.heap.size w w' ∧ Cp t.1.length c
theorem rdrc_nil {t : List Int × Int × Int} {e1 e2 : Int} (ht : t = ([], e1, e2)) {w w' : World} (hB : Below w.heap.size w w') : RdRc t w (.returned (.tuple #[.slice none 0 0, .int .i64 e1, .int .i64 e2])) w' :=
  ⟨none, 0, by rw [ht]; rfl, by rw [ht]; exact slk_nil, hB, by rw [ht]; exact ⟨Nat.le_refl _, by omega⟩⟩
theorem rdrc_row {t : List Int × Int × Int} {l : List Int} {e1 e2 x : Int} (ht : t = (l, e1, e2)) (hx : x = e1) {w w' : World} {base k : Nat} {v : Value} (hr : w'.ownsRow base 55 1 v k (pixs l)) (hk : l.length = k) (hB : Below w.heap.size w w') : RdRc t w (.returned (.tuple #[v, .int .i64 x, .int .i64 e2])) w' := by
  obtain ⟨a, c, rfl, hs⟩ := slk_row hr hk
  have hc : Cp k c := by
    rcases hr.2 with ⟨h, h0⟩ | ⟨g9, cap9, cur9, h, _, _, h8, h9, _⟩
    · cases h; exact ⟨Nat.le_refl _, by omega⟩
    · cases h; exact ⟨h8, h9⟩
  subst hk; subst hx
  exact ⟨a, c, by rw [ht], by rw [ht]; exact hs, hB, by rw [ht]; exact hc⟩
set_option maxRecDepth 100000 in
set_option maxHeartbeats 4000000 in
theorem plReadC_any (s : ByteArray) (hsz : s.size ≤ 100000) (h : Hd.H) (hf : Hj.Fit h) (w : World) :
    Calls Tryz.prog 98 #[.string s, agH h] w (RdRc (Pl.readV h (bytesOf s)) w) := by
  by_cases hm : Pl.May h
  · have HN := Lib.hid (plNew_yes h hf hm)
    obtain ⟨t0, ht0⟩ : ∃ t, Pl.readV h (bytesOf s) = t := ⟨_, rfl⟩
    have HV0 : Hid (t0 = Pl.readF (Pl.new h) 0 [] (bytesOf s)) := by show _ = _; rw [← ht0]; exact if_pos hm
    rw [ht0]
    obtain ⟨p0, pi, pz0, pz1, pz2⟩ : ∃ i, Tryz.prog.info? 55 = some i ∧ i.zero = some (.int .u64 0) ∧ i.size = 1 ∧ i.bytes = 8 := (by have h := Tryz.info_px8; cases hh : Tryz.prog.info? 55 with | none => rw [hh] at h; cases h | some i => rw [hh] at h; simp at h; exact ⟨i, rfl, h.1, h.2.1, h.2.2⟩)
    clear ht0 hf hm
    unfold agH at HN ⊢
    go_enter Tryz.func98, Tryz.ntmps98
    go_wp2_with fail
    refine (HN.out _).mono ?_
    rintro e w1 ⟨b, rfl, hwb, hX, hb1⟩
    have HX1 := Lib.hid hX
    have HB1 := Lib.hid (((Below.refl _ w).alloc (Nat.le_refl _) _).trans (hb1.mono (by simp)))
    have HWB : Hid (w.heap.size ≤ b) := Lib.hid (by simp at hwb; omega)
    clear hX hb1 hwb
    go_wp2_with fail
    go_loopw [9, 25] (fun u9 u25 wr => ∃ (i : Nat) (sv rv : Value) (st : Pl.S) (acc : List Int) (v : Value), i ≤ s.size ∧ u25 = .int .i64 i ∧ v = u9 ∧ PlX wr b sv rv st ∧ st.last = 0 ∧ wr.ownsRow w.heap.size 55 1 v acc.length (pixs acc) ∧ Ap v b sv rv ∧ acc.length + st.row.length ≤ i ∧ Below w.heap.size w wr ∧ t0 = Pl.readF st i acc ((bytesOf s).drop i)) (fun _ u25 _ => s.size - (intOf u25).toNat)
    case atStart => exact ⟨0, _, _, Pl.new h, [], _, Nat.zero_le _, rfl, rfl, HX1.out, rfl, World.ownsRow_nil _ _ _ _, ap_nil _ _ _, Nat.le_refl _, HB1.out, HV0.out⟩
    case round =>
      obtain ⟨i, sv, rv, st, acc, v, hi1, rfl, rfl, hX, h0, hrow, hap, hgr, hB, hV⟩ := hrel
      have HX := Lib.hid hX
      have HROW := Lib.hid hrow
      have HAP := Lib.hid hap
      have HB := Lib.hid hB
      have H0 := Lib.hid h0
      have HG := Lib.hid hX.g
      obtain ⟨n, hn⟩ : ∃ n, acc.length = n := ⟨_, rfl⟩
      have HNL := Lib.hid hn
      rw [hn] at hgr
      have HROW' : Hid (wr.ownsRow w.heap.size 55 1 v n (pixs acc)) := by show World.ownsRow _ _ _ _ _ _ _; have h := hrow; rw [hn] at h; exact h
      have hn9 : n ≤ 100000 := by omega
      have HGR := Lib.hid hgr
      clear hX hrow hap hB h0 hn
      have HPZ : Hid (∀ (q : Pl.S × List Int) (w2 : World) sv' rv', PlX w2 b sv' rv' q.1 → Sep (PlZ b sv rv) wr w2 → PlNew wr sv sv' → PlNew wr rv rv' → w2.ownsRow w.heap.size 55 1 v n (pixs acc) ∧ Ap v b sv' rv' ∧ Below w.heap.size w w2) := Lib.hid fun q w2 sv' rv' hX2 hS hN1 hN2 =>
        ⟨row_sep HROW'.out hS HAP.out, ap_put HROW'.out HAP.out hN1 hN2, HB.out.trans (hS.below HB.out.size (fun k hk hz => by have := (HX.out.z k hz).1; have := HWB.out; omega))⟩
      by_cases hlt : i < s.size
      · rw [bytesOf_drop s i hlt] at hV
        have c0 : (0 : Int) ≤ (s[i].toNat : Int) := by omega
        have c1 : (s[i].toNat : Int) ≤ 255 := by have := s[i].toNat_lt; omega
        have HP := plPut_any (s[i].toNat : Int) c0 c1 wr b sv rv HX.out
        have hg' := Pl.put_grow st (s[i].toNat : Int)
        have hG' := (Pl.good_put HG.out (s[i].toNat : Int)).last
        obtain ⟨q, hq⟩ : ∃ q, Pl.put st (s[i].toNat : Int) = q := ⟨_, rfl⟩
        rw [hq] at HP hg' hG'
        obtain ⟨m, hm⟩ : ∃ m, q.2.length = m := ⟨_, rfl⟩
        have hml : m ≤ 100001 := by omega
        have HQG := Lib.hid hg'
        have HML := Lib.hid hm
        by_cases h1 : q.1.last = 1
        · have HV2 : Hid (t0 = (acc ++ q.2, (i : Int) + 1, 0)) := by show _ = _; rw [hV, Pl.readF_over hq h1]
          unfold PlPutR at HP
          rw [h1, hm] at HP
          have HPC := Lib.hid HP
          have hii : (i : Int) + 1 ≤ 9223372036854775807 := by omega
          clear HP hg' hG' hq hm hV h1 hgr
          go_wp2_with (first | (at_builtin; refine wpList_app rfl _ _ 30 rfl w.heap.size 55 p0 .u64 8 Tryz.underlying30 pi pz0 pz1 pz2 v n (pixs acc) rfl HO2.out a m c q.2 rfl HS2.out (by unfold maxLen; omega) (by omega) HB2.out.size ?_; intro v3 w3 hown hgrow hat; have HO3 := Lib.hid hown; have HB3 := Lib.hid (HB2.out.grown hgrow HB2.out.size (fun j ej => (HO2.out.lt j ej).1)); clear hown hgrow hat) | (go_at_call 130; refine HPC.out.mono ?_; rintro e w2 ⟨a, c, sv', rv', rfl, hX2, hS2, _, hF2, hN1, hN2⟩; obtain ⟨z1, z2, z3⟩ := HPZ.out q w2 sv' rv' hX2 hF2 hN1 hN2; have HO2 := Lib.hid z1; have HB2 := Lib.hid z3; have HS2 := Lib.hid hS2; clear hX2 hS2 hF2 hN1 hN2 z1 z2 z3))
          go_returns
          exact rdrc_row HV2.out rfl (by have h := HO3.out; unfold pixs; rw [List.map_append]; exact h) (by rw [List.length_append, HNL.out, HML.out]) HB3.out
        by_cases h2 : q.1.last = 2
        · have HV2 : Hid (t0 = ([], 0, q.1.e)) := by show _ = _; rw [hV, Pl.readF_wrong hq h2]
          unfold PlPutR at HP
          rw [h2, hm] at HP
          have HPC := Lib.hid HP
          clear HP hg' hG' hq hm hV h1 h2 hgr
          go_wp2_with (first | (at_builtin; refine wpList_app rfl _ _ 30 rfl w.heap.size 55 p0 .u64 8 Tryz.underlying30 pi pz0 pz1 pz2 v n (pixs acc) rfl HO2.out a m c q.2 rfl HS2.out (by unfold maxLen; omega) (by omega) HB2.out.size ?_; intro v3 w3 hown hgrow hat; have HB3 := Lib.hid (HB2.out.grown hgrow HB2.out.size (fun j ej => (HO2.out.lt j ej).1)); have HX3 := Lib.hid (HX2.out.kept HA2.out hgrow); clear hown hgrow hat) | (go_at_call 130; refine HPC.out.mono ?_; rintro e w2 ⟨a, c, sv', rv', rfl, hX2, hS2, _, hF2, hN1, hN2⟩; obtain ⟨z1, z2, z3⟩ := HPZ.out q w2 sv' rv' hX2 hF2 hN1 hN2; have HO2 := Lib.hid z1; have HA2 := Lib.hid z2; have HB2 := Lib.hid z3; have HS2 := Lib.hid hS2; have HX2 := Lib.hid hX2; clear hX2 hS2 hF2 hN1 hN2 z1 z2 z3) | (go_at_call 135; refine (plError_x HX3.out).mono ?_; rintro e w9 ⟨rfl, rfl⟩))
          go_returns
          exact rdrc_nil HV2.out HB3.out
        · have h3 : q.1.last = 0 := by omega
          have HV2 : Hid (t0 = Pl.readF q.1 (i + 1) (acc ++ q.2) ((bytesOf s).drop (i + 1))) := by show _ = _; rw [hV, Pl.readF_more hq h3]
          unfold PlPutR at HP
          rw [h3, hm] at HP
          have HPC := Lib.hid HP
          have H3 := Lib.hid h3
          clear HP hg' hG' hq hm hV h1 h2 h3 hgr
          go_wp2_with (first | (at_builtin; refine wpList_app rfl _ _ 30 rfl w.heap.size 55 p0 .u64 8 Tryz.underlying30 pi pz0 pz1 pz2 v n (pixs acc) rfl HO2.out a m c q.2 rfl HS2.out (by unfold maxLen; omega) (by omega) HB2.out.size ?_; intro v3 w3 hown hgrow hat; have HO3 := Lib.hid hown; have HB3 := Lib.hid (HB2.out.grown hgrow HB2.out.size (fun j ej => (HO2.out.lt j ej).1)); have HX3 := Lib.hid (HX2.out.kept HA2.out hgrow); have HA3 := Lib.hid (ap_app HX2.out HA2.out hat); clear hown hgrow hat) | (go_at_call 130; refine HPC.out.mono ?_; rintro e w2 ⟨a, c, sv', rv', rfl, hX2, hS2, _, hF2, hN1, hN2⟩; obtain ⟨z1, z2, z3⟩ := HPZ.out q w2 sv' rv' hX2 hF2 hN1 hN2; have HO2 := Lib.hid z1; have HA2 := Lib.hid z2; have HB2 := Lib.hid z3; have HS2 := Lib.hid hS2; have HX2 := Lib.hid hX2; clear hX2 hS2 hF2 hN1 hN2 z1 z2 z3))
          go_roundw
          case rel => exact ⟨i + 1, sv', rv', q.1, acc ++ q.2, v3, by omega, by go_num, rfl, HX3.out, H3.out, by rw [List.length_append, HNL.out, HML.out]; have h := HO3.out; unfold pixs; rw [List.map_append]; exact h, HA3.out, by rw [List.length_append, HNL.out]; have := HQG.out; have := HGR.out; omega, HB3.out, HV2.out⟩
          case measure => simp [intOf]; omega
      · have hgl := Pl.fin_grow st
        have hls := Pl.fin_last HG.out
        have HP := plEnd_any wr b sv rv HX.out
        obtain ⟨q, hq⟩ : ∃ q, Pl.fin st = q := ⟨_, rfl⟩
        rw [List.drop_eq_nil_of_le (by rw [bytesOf_length]; omega), Pl.readF_nil hq] at hV
        rw [hq] at HP hgl hls
        obtain ⟨m, hm⟩ : ∃ m, q.2.length = m := ⟨_, rfl⟩
        have hml : m ≤ 100001 := by omega
        have HML := Lib.hid hm
        have his : i = s.size := by omega
        by_cases h2 : q.1.last = 2
        · have HV2 : Hid (t0 = ([], 0, q.1.e)) := by show _ = _; rw [hV, if_pos h2]
          unfold PlPutR at HP
          rw [h2, hm] at HP
          have HPC := Lib.hid HP
          clear HP hgl hls hq hm hV h2 hgr his
          go_wp2_with (first | (go_at_call 83; refine HPC.out.mono ?_; rintro e w2 ⟨a, c, sv', rv', rfl, hX2, hS2, _, hF2, hN1, hN2⟩; obtain ⟨z1, z2, z3⟩ := HPZ.out q w2 sv' rv' hX2 hF2 hN1 hN2; have HB2 := Lib.hid z3; have HX2 := Lib.hid hX2; clear hX2 hS2 hF2 hN1 hN2 z1 z2 z3) | (go_at_call 135; refine (plError_x HX2.out).mono ?_; rintro e w9 ⟨rfl, rfl⟩))
          go_returns
          exact rdrc_nil HV2.out HB2.out
        · have h3 : q.1.last = 1 := by omega
          have HV2 : Hid (t0 = (acc ++ q.2, (s.size : Int), 0)) := by show _ = _; rw [hV, if_neg h2, his]
          unfold PlPutR at HP
          rw [h3, hm] at HP
          have HPC := Lib.hid HP
          clear HP hgl hls hq hm hV h2 h3 hgr his
          go_wp2_with (first | (at_builtin; refine wpList_app rfl _ _ 30 rfl w.heap.size 55 p0 .u64 8 Tryz.underlying30 pi pz0 pz1 pz2 v n (pixs acc) rfl HO2.out a m c q.2 rfl HS2.out (by unfold maxLen; omega) (by omega) HB2.out.size ?_; intro v3 w3 hown hgrow hat; have HO3 := Lib.hid hown; have HB3 := Lib.hid (HB2.out.grown hgrow HB2.out.size (fun j ej => (HO2.out.lt j ej).1)); clear hown hgrow hat) | (go_at_call 83; refine HPC.out.mono ?_; rintro e w2 ⟨a, c, sv', rv', rfl, hX2, hS2, _, hF2, hN1, hN2⟩; obtain ⟨z1, z2, z3⟩ := HPZ.out q w2 sv' rv' hX2 hF2 hN1 hN2; have HO2 := Lib.hid z1; have HB2 := Lib.hid z3; have HS2 := Lib.hid hS2; clear hX2 hS2 hF2 hN1 hN2 z1 z2 z3))
          go_returns
          exact rdrc_row HV2.out rfl (by have h := HO3.out; unfold pixs; rw [List.map_append]; exact h) (by rw [List.length_append, HNL.out, HML.out]) HB3.out
  · have HN := Lib.hid (plNew_no h hf hm)
    have HV : Hid (Pl.readV h (bytesOf s) = ([], 0, 1)) := Lib.hid (if_neg hm)
    clear hf hm
    unfold agH at HN ⊢
    go_enter Tryz.func98, Tryz.ntmps98
    go_wp2_with (go_at_call 134; refine (HN.out _).mono ?_; rintro e w1 ⟨rfl, hb1⟩; have HB1 := Lib.hid (((Below.refl _ w).alloc (Nat.le_refl _) _).trans (hb1.mono (by simp))))
    go_returns
    exact rdrc_nil HV.out HB1.out
end Go.Proofs.YtkjkepnailamnaaGreat
namespace Go.Proofs.YtkjkepnailamnaaGreat
open Go.RowKit
theorem refParse_go (s : ByteArray) (hs : s.size ≤ 100000) (a b c : Int) (w : World) (h : 2 < s.size) (z1 : (s[0].toNat : Int) = 80) (z3 : 49 ≤ (s[1].toNat : Int) ∧ (s[1].toNat : Int) ≤ 54) (z5 : Tk.blank (s[2].toNat : Int) = true ∨ (s[2].toNat : Int) = 35) :
    Calls Tryz.prog 60 #[.string s, .agg #[.int .i64 a, .int .i64 b, .int .i64 c]] w (RParR s (Hd.limits a b c) w) := by
  cases hb : Hd.bits ((s[1].toNat : Int) - 48)
  · exact refParse_F s hs a b c w h z1 z3 z5 hb
  · exact refParse_T s hs a b c w h z1 z3 z5 hb
theorem refParse_any (s : ByteArray) (hs : s.size ≤ 100000) (a b c : Int) (w : World) :
    Calls Tryz.prog 60 #[.string s, .agg #[.int .i64 a, .int .i64 b, .int .i64 c]] w (RParR s (Hd.limits a b c) w) := by
  by_cases h2 : 2 < s.size
  · by_cases hz : (s[0].toNat : Int) = 80 ∧ (49 ≤ (s[1].toNat : Int) ∧ (s[1].toNat : Int) ≤ 54) ∧ (Tk.blank (s[2].toNat : Int) = true ∨ (s[2].toNat : Int) = 35)
    · exact refParse_go s hs a b c w h2 hz.1 hz.2.1 hz.2.2
    · exact refParse_early s hs a b c w (.inl (fun hh => hz (hh h2)))
  · exact refParse_early s hs a b c w (.inr (by omega))
end Go.Proofs.YtkjkepnailamnaaGreat

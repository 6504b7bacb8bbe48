/- What a reader of digits makes of a sample, over any memory. Condition: its head may be, its numbers are samples. -/
import Derived.Test.YtmnhiagppicegaaGreatZPlD
import Derived.Test.YtmnhiagppicegaaGreatZgAC
import Derived.Test.YtmnhiagppicegaaGreatZgAD
import Derived.Test.YtmnhiagppicegaaGreatZgAB
import Derived.Laws.CopyOwn
import Derived.Laws.MakeOwn
import Derived.Deep.OwnRows
import Derived.Test.YtmnhiagppicegaaGreatZHedK
import Derived.Deep.RegionLaw
import Derived.Deep.RegionHeld3
import Derived.RegionIn
import Derived.Test.YtmnhiagppicegaaGreatZQPixD
import Derived.Test.YtmnhiagppicegaaGreatZQPixF
import Derived.Test.YtmnhiagppicegaaGreatZgAA
import Derived.Test.YtmnhiagppicegaaGreatZPlSh
namespace Go.Proofs.YtmnhiagppicegaaGreat
open Go.RowKit
set_option linter.unusedVariables false

/-- what take comes to -/
theorem plTake_any {s : Pl.S} (hG : Pl.Good s) (h0 : s.last = 0) (n : Int) {b : Nat} {sv rv x : Value} {w : World} (T : PlT w b s.h sv rv n sv rv s.one s.row s.rows 0 x w) :
    Calls Tryz.prog 164 #[.pointer (some ⟨b, 0, none⟩)] w (TakeR w b s.h sv rv x (Pl.sample s n).1.one (Pl.sample s n).1.row (Pl.sample s n).1.rows (Pl.sample s n).1.last (Pl.sample s n).2) := by
  have hm := hG.may.m
  have hc := Hj.chan_at s.h
  have ho := hG.one
  have hr := hG.row
  have l1 : s.one.length ≤ 3 := by omega
  have l2 : s.row.length ≤ 4096 := by omega
  unfold Pl.sample
  by_cases h1 : (s.one.length : Int) + 1 < Hj.chan s.h
  · rw [if_pos h1]
    exact take_more hG.may T l1 l2 hG.rows0 (hG.rows1 h0) h1
  rw [if_neg h1]
  by_cases h2 : (s.row.length : Int) + 1 < s.h.w
  · rw [if_pos h2]
    exact take_pixel hG.may T l1 l2 hG.rows0 (hG.rows1 h0) h1 ho h2
  rw [if_neg h2]
  by_cases h3 : s.rows + 1 = s.h.h
  · have e : (Pl.line s n).last = 1 := if_pos h3
    show Calls _ _ _ _ (TakeR w b s.h sv rv x [] [] (s.rows + 1) (Pl.line s n).last (s.row ++ [Pl.pix s n]))
    rw [e]
    exact take_over hG.may T l1 l2 hG.rows0 (hG.rows1 h0) h1 ho h2 hr h3
  · have e : (Pl.line s n).last = 0 := if_neg h3
    show Calls _ _ _ _ (TakeR w b s.h sv rv x [] [] (s.rows + 1) (Pl.line s n).last (s.row ++ [Pl.pix s n]))
    rw [e]
    exact take_row hG.may T l1 l2 hG.rows0 (hG.rows1 h0) h1 ho h2 hr h3
end Go.Proofs.YtmnhiagppicegaaGreat

/- A reader of digits is told a byte, and the end, over any memory. Condition: its head may be. -/
namespace Go.Proofs.YtmnhiagppicegaaGreat
open Go.RowKit
set_option linter.unusedVariables false

section
variable (c : Int) (w : World) (b : Nat) (h : Hd.H) (n : Int) (sv rv : Value) (rows : Int)
set_option maxHeartbeats 1000000 in
theorem plPut_done (t f : Int) (x : Value) (ht : t ≠ 0) (H : PlC w b h n sv rv rows t f x) :
    Calls Tryz.prog 124 #[.pointer (some ⟨b, 0, none⟩), .int .u8 c] w fun e w' => e = .returned (.tuple #[.slice none 0 0, .int .i64 t]) ∧ ∃ j, w' = w.drewN j := by
  have hc8 := H.c8
  have ht' : (t != 0) = true := by simpa using ht
  go_enter Tryz.func124, Tryz.ntmps124
  go_wp2_with (go_quiet (fail))
  go_ret2
  exact ⟨rfl, _, rfl⟩
variable (fn : Nat) (hn : ∀ args w, (callFunc fn args).run Tryz.prog w = .ok (.enter fn args) w) (H : PlC w b h n sv rv rows 0 0 (.func (.func fn) #[] #[])) (k : Int) (x : Value)
include hn H
set_option maxHeartbeats 1000000 in
theorem plPut_open (hcall : Calls Tryz.prog fn #[.pointer (some ⟨b, 0, none⟩), .int .u8 c] w (StR w b h k sv rv rows x false 0)) :
    Calls Tryz.prog 124 #[.pointer (some ⟨b, 0, none⟩), .int .u8 c] w fun e w' => e = .returned (.tuple #[.slice none 0 0, .int .i64 0]) ∧ PlC w' b h k sv rv rows 0 0 x ∧ w.grownBy w' (some b) := by
  have hc8 := H.c8
  have hc10 := H.c10
  have HC := Lib.hid hcall
  clear hcall
  go_enter Tryz.func124, Tryz.ntmps124
  go_wp2_with (go_at_fn fn; refine HC.out.mono ?_; rintro e w2 ⟨rfl, h2, hg2⟩; have HH2 := Lib.hid h2; have HG2 := Lib.hid hg2; clear h2 hg2)
  go_ret2
  exact ⟨rfl, HH2.out, HG2.out⟩
set_option maxHeartbeats 1000000 in
theorem plPut_err (d : Bool) (er : Int) (he : er ≠ 0) (hcall : Calls Tryz.prog fn #[.pointer (some ⟨b, 0, none⟩), .int .u8 c] w (StR w b h k sv rv rows x d er)) :
    Calls Tryz.prog 124 #[.pointer (some ⟨b, 0, none⟩), .int .u8 c] w fun e w' => e = .returned (.tuple #[.slice none 0 0, .int .i64 2]) ∧ PlC w' b h k sv rv rows 2 er x ∧ w.grownBy w' (some b) := by
  have hc8 := H.c8
  have hc10 := H.c10
  have HC := Lib.hid hcall
  have ke : (er != 0) = true := by simpa using he
  clear hcall he
  go_enter Tryz.func124, Tryz.ntmps124
  go_wp2_with (first | (go_at_fn fn; refine HC.out.mono ?_; rintro e w2 ⟨rfl, h2, hg2⟩; have HH2 := Lib.hid h2; have HG2 := Lib.hid hg2; clear h2 hg2) | (go_at_call 125; refine (plWrong_any w2 b h k sv rv rows 0 0 x HH2.out er).mono ?_; rintro e w3 ⟨rfl, h3, hg3⟩; have hd8 := h3.c8; have HH3 := Lib.hid h3; have HG3 := Lib.hid hg3; clear h3 hg3) | go_quiet (fail))
  go_ret2
  exact ⟨rfl, HH3.out.drewN _, (HG2.out.trans HG3.out).trans (grown_drew _ _ _)⟩
set_option maxHeartbeats 1000000 in
theorem plPut_take (n' rows' t' : Int) (out : List Int) (R : World → World → Option Addr → Value → Value → Prop) (hcall : Calls Tryz.prog fn #[.pointer (some ⟨b, 0, none⟩), .int .u8 c] w (StR w b h k sv rv rows x true 0))
    (htk : ∀ W, PlC W b h k sv rv rows 0 0 x → w.grownBy W (some b) → Calls Tryz.prog 164 #[.pointer (some ⟨b, 0, none⟩)] W fun e w' => ∃ a c sv' rv', e = .returned (.slice a out.length c) ∧ PlC w' b h n' sv' rv' rows' t' 0 x ∧ R W w' a sv' rv') :
    Calls Tryz.prog 124 #[.pointer (some ⟨b, 0, none⟩), .int .u8 c] w fun e w' => ∃ a c sv' rv' W1 W2 j, e = .returned (.tuple #[.slice a out.length c, .int .i64 t']) ∧ w.grownBy W1 (some b) ∧ R W1 W2 a sv' rv' ∧ w' = W2.drewN j := by
  have hc8 := H.c8
  have hc10 := H.c10
  have HC := Lib.hid hcall
  have HT := Lib.hid htk
  obtain ⟨ol, hol⟩ : ∃ ol, out.length = ol := ⟨_, rfl⟩
  rw [hol] at HT ⊢
  clear hcall htk hol
  go_enter Tryz.func124, Tryz.ntmps124
  go_wp2_with (first | (go_at_fn fn; refine HC.out.mono ?_; rintro e w2 ⟨rfl, h2, hg2⟩; have HH2 := Lib.hid h2; have HG2 := Lib.hid hg2; clear h2 hg2) | (go_at_call 164; refine (HT.out w2 HH2.out HG2.out).mono ?_; rintro e w3 ⟨a3, c3, sv3, rv3, rfl, h3, hr3⟩; have hd8 := h3.c8; have HR3 := Lib.hid hr3; clear h3 hr3) | go_quiet (fail))
  go_ret2
  exact ⟨a3, c3, sv3, rv3, w2, w3, _, rfl, HG2.out, HR3.out, rfl⟩
end
end Go.Proofs.YtmnhiagppicegaaGreat

/- A reader of digits is told a byte, and the end: what it comes to, over any memory. Condition: its head may be. -/
namespace Go.Proofs.YtmnhiagppicegaaGreat
open Go.RowKit
set_option linter.unusedVariables false

theorem Pl.sample_h (s : Pl.S) (k : Int) : (Pl.sample s k).1.h = s.h := by
  unfold Pl.sample
  split
  · rfl
  · split <;> rfl
theorem Pl.sample_d (s : Pl.S) (k : Int) : (Pl.sample s k).1.d = false := by
  unfold Pl.sample
  split
  · rfl
  · split <;> rfl
theorem Pl.sample_e (s : Pl.S) (k : Int) : (Pl.sample s k).1.e = 0 := by
  unfold Pl.sample
  split
  · rfl
  · split <;> rfl
def stOf (s : Pl.S) : Value := if s.h.kd = 1 then stB else if s.d = true then stD else stA
/-- a reader in the block b is where s says -/
structure PlX (w : World) (b : Nat) (sv rv : Value) (s : Pl.S) : Prop where
  g : Pl.Good s
  z : ∀ k, PlZ b sv rv k → b ≤ k ∧ k < w.heap.size
  ex : ∃ n x, PlC w b s.h n sv rv s.rows s.last s.e x ∧ (s.last = 0 → n = s.n ∧ x = stOf s ∧ w.ownsRow (b + 1) 3 1 sv s.one.length (ints s.one) ∧ w.ownsRow (b + 1) 26 1 rv s.row.length (pixs s.row))
/-- what a reader hands back of a byte, and what its blocks hold then -/
def PlPutR (w : World) (b : Nat) (sv rv : Value) (q : Pl.S × List Int) (e : Ending) (w' : World) : Prop :=
  ∃ a c sv' rv', e = .returned (.tuple #[.slice a q.2.length c, .int .i64 q.1.last]) ∧ PlX w' b sv' rv' q.1 ∧ SlK .u64 w' a q.2.length q.2 ∧ (∀ y, a = some y → y.block ≠ b) ∧ Sep (PlZ b sv rv) w w' ∧ PlNew w sv sv' ∧ PlNew w rv rv'
theorem slk_nil {w : World} : SlK .u64 w none ([] : List Int).length [] := ⟨rfl, .inl rfl⟩
theorem slk_kept {q : IntKind} {w w' : World} {a : Option Addr} {n b : Nat} {l : List Int} (h : SlK q w a n l) (ha : ∀ y, a = some y → y.block ≠ b) (hg : w.grownBy w' (some b)) : SlK q w' a n l := by
  obtain ⟨h1, h2⟩ := h
  refine ⟨h1, ?_⟩
  rcases h2 with h2 | ⟨g, o, rfl, hc⟩
  · exact .inl h2
  · refine .inr ⟨g, o, rfl, fun i hi => ?_⟩
    have hne := ha _ rfl
    exact hg.cell (hc i hi) (by intro e; injection e with e; exact hne e)
theorem PlX.own0 {w : World} {b : Nat} {sv rv : Value} {s : Pl.S} (X : PlX w b sv rv s) (h0 : s.last = 0) : PlT w b s.h sv rv s.n sv rv s.one s.row s.rows 0 (stOf s) w := by
  obtain ⟨n, x, hC, hx⟩ := X.ex
  obtain ⟨rfl, rfl, h1, h2⟩ := hx h0
  have e0 := X.g.e0 (by omega)
  rw [h0, e0] at hC
  exact .start hC h1 h2
theorem PlT.z {W w : World} {b : Nat} {h : Hd.H} {sv0 rv0 : Value} {n : Int} {sv rv : Value} {one row : List Int} {rows t : Int} {x : Value} (T : PlT W b h sv0 rv0 n sv rv one row rows t x w) {w' : World} (hs : w.heap.size ≤ w'.heap.size) : ∀ k, PlZ b sv rv k → b ≤ k ∧ k < w'.heap.size := by
  intro k hk
  have hb := T.c.lt
  rcases hk with rfl | hk | hk
  · exact ⟨Nat.le_refl _, Nat.lt_of_lt_of_le hb hs⟩
  · have := T.s.lt k hk; omega
  · have := T.r.lt k hk; omega
theorem z_up {w w' : World} {b : Nat} {sv rv : Value} (h : ∀ k, PlZ b sv rv k → b ≤ k ∧ k < w.heap.size) (hs : w.heap.size ≤ w'.heap.size) : ∀ k, PlZ b sv rv k → b ≤ k ∧ k < w'.heap.size := fun k hk => ⟨(h k hk).1, Nat.lt_of_lt_of_le (h k hk).2 hs⟩
theorem put_open {w : World} {b : Nat} {sv rv : Value} {s t : Pl.S} (hG : Pl.Good t) (ht : t.last = 0) (T : PlT w b s.h sv rv s.n sv rv s.one s.row s.rows 0 (stOf s) w) (hs : t.h = s.h ∧ t.one = s.one ∧ t.row = s.row ∧ t.rows = s.rows)
    {e : Ending} {w' : World} (he : e = .returned (.tuple #[.slice none 0 0, .int .i64 0])) (hC : PlC w' b s.h t.n sv rv s.rows 0 0 (stOf t)) (hg : w.grownBy w' (some b)) : PlPutR w b sv rv (t, []) e w' := by
  obtain ⟨a1, a2, a3, a4⟩ := hs
  have e0 := hG.e0 (by omega)
  refine ⟨none, 0, sv, rv, by rw [he]; show _ = Ending.returned (.tuple #[.slice none 0 0, .int .i64 t.last]); rw [ht], ⟨hG, T.z hg.size, t.n, stOf t, by rw [a1, a4, ht, e0]; exact hC, fun _ => ⟨rfl, rfl, ?_, ?_⟩⟩, slk_nil, (fun y hy => by cases hy), .grown hg (.inl rfl), .inl rfl, .inl rfl⟩
  · rw [a2]; exact T.s.kept hg (.inr fun e => T.nes e.symm)
  · rw [a3]; exact T.r.kept hg (.inr fun e => T.ner e.symm)
theorem put_wrong {w : World} {b : Nat} {sv rv : Value} {s : Pl.S} (hG : Pl.Good s) (T : PlT w b s.h sv rv s.n sv rv s.one s.row s.rows 0 (stOf s) w) {er : Int} (her : er = 3 ∨ er = 5 ∨ er = 6)
    {e : Ending} {w' : World} {k : Int} {x : Value} (he : e = .returned (.tuple #[.slice none 0 0, .int .i64 2])) (hC : PlC w' b s.h k sv rv s.rows 2 er x) (hg : w.grownBy w' (some b)) : PlPutR w b sv rv (Pl.wrong s er, []) e w' :=
  ⟨none, 0, sv, rv, he, ⟨Pl.good_wrong hG her, T.z hg.size, k, x, hC, fun h => absurd h (show ¬ (2 : Int) = 0 by decide)⟩, slk_nil, (fun y hy => by cases hy), .grown hg (.inl rfl), .inl rfl, .inl rfl⟩
theorem put_sample {w : World} {b : Nat} {sv rv : Value} {s : Pl.S} (hG : Pl.Good s) (h0 : s.last = 0) (T : PlT w b s.h sv rv s.n sv rv s.one s.row s.rows 0 (stOf s) w) (c k : Int) (k0 : 0 ≤ k) (k1 : k ≤ s.h.m) (fn : Nat)
    (hn : ∀ args w, (callFunc fn args).run Tryz.prog w = .ok (.enter fn args) w) (hfn : stOf s = .func (.func fn) #[] #[]) (x : Value) (hx : x = if s.h.kd = 1 then stB else stA)
    (hcall : Calls Tryz.prog fn #[.pointer (some ⟨b, 0, none⟩), .int .u8 c] w (StR w b s.h k sv rv s.rows x true 0)) :
    Calls Tryz.prog 124 #[.pointer (some ⟨b, 0, none⟩), .int .u8 c] w (PlPutR w b sv rv (Pl.sample s k)) := by
  have H := T.c
  rw [hfn] at H
  refine (plPut_take c w b s.h s.n sv rv s.rows fn hn H k x 0 (Pl.sample s k).1.rows (Pl.sample s k).1.last (Pl.sample s k).2 (fun W1 W2 a sv' rv' => PlT W1 b s.h sv rv 0 sv' rv' (Pl.sample s k).1.one (Pl.sample s k).1.row (Pl.sample s k).1.rows (Pl.sample s k).1.last x W2 ∧ SlK .u64 W2 a (Pl.sample s k).2.length (Pl.sample s k).2 ∧ ∀ y, a = some y → y.block ≠ b) hcall ?_).mono ?_
  · intro W hC hg
    refine (plTake_any hG h0 k (.start hC (T.s.kept hg (.inr fun e => T.nes e.symm)) (T.r.kept hg (.inr fun e => T.ner e.symm)))).mono ?_
    rintro e w' ⟨a, c', sv', rv', he, hT, hS⟩
    exact ⟨a, c', sv', rv', he, hT.c, hT, hS⟩
  · rintro e w' ⟨a, c', sv', rv', W1, W2, j, he, hg1, ⟨hT, hS, hA⟩, rfl⟩
    have hGq := Pl.good_sample hG h0 k k0 k1
    have hh := Pl.sample_h s k
    have hd := Pl.sample_d s k
    have hz : (Pl.sample s k).1.n = 0 := hGq.nd hd
    have he2 := Pl.sample_e s k
    have hst : stOf (Pl.sample s k).1 = x := by unfold stOf; rw [hh, hd, hx]; rfl
    refine ⟨a, c', sv', rv', he, ⟨hGq, hT.z (Nat.le_refl _), 0, x, ?_, fun _ => ⟨hz.symm, hst.symm, hT.s, hT.r⟩⟩, hS, hA, ((Sep.grown hg1 (.inl rfl)).trans hT.f).trans (.drewN _ _ _), ?_, ?_⟩
    · rw [hh, he2]; exact hT.c
    · rcases hT.ns with h | h
      · exact .inl h
      · exact .inr fun i hi => Nat.le_trans hg1.size (h i hi)
    · rcases hT.nr with h | h
      · exact .inl h
      · exact .inr fun i hi => Nat.le_trans hg1.size (h i hi)
theorem plPut_any {s : Pl.S} (c : Int) (c0 : 0 ≤ c) (c1 : c ≤ 255) (w : World) (b : Nat) (sv rv : Value) (X : PlX w b sv rv s) :
    Calls Tryz.prog 124 #[.pointer (some ⟨b, 0, none⟩), .int .u8 c] w (PlPutR w b sv rv (Pl.put s c)) := by
  have hG := X.g
  have hm := hG.may.m
  by_cases h0 : s.last = 0
  · have T := X.own0 h0
    have H := T.c
    unfold Pl.put
    rw [if_neg (by omega)]
    cases hb : Tk.blank c with
    | true =>
      rw [if_pos rfl]
      by_cases hd : s.d = true
      · rw [if_pos hd]
        have hk : s.h.kd ≠ 1 := fun e => by rw [hG.kd e] at hd; cases hd
        have hst : stOf s = stD := by unfold stOf; rw [if_neg hk, if_pos hd]
        rw [hst] at H
        exact put_sample hG h0 T c s.n hG.n0 hG.n1 _ enPD hst stA (by rw [if_neg hk]) (plBehind_blank w b s.h s.n sv rv s.rows c c0 c1 hb H)
      · rw [if_neg hd]
        by_cases hk : s.h.kd = 1
        · have hst : stOf s = stB := by unfold stOf; rw [if_pos hk]
          rw [hst] at H
          refine (plPut_open c w b s.h s.n sv rv s.rows _ enPB H s.n stB (plBit_blank w b s.h s.n sv rv s.rows c c0 c1 hb H)).mono ?_
          rintro e w' ⟨he, hC, hg⟩
          exact put_open hG h0 T ⟨rfl, rfl, rfl, rfl⟩ he (by rw [hst]; exact hC) hg
        · have hst : stOf s = stA := by unfold stOf; rw [if_neg hk, if_neg hd]
          rw [hst] at H
          refine (plPut_open c w b s.h s.n sv rv s.rows _ enPA H s.n stA (plAhead_blank w b s.h s.n sv rv s.rows c c0 c1 hb H)).mono ?_
          rintro e w' ⟨he, hC, hg⟩
          exact put_open hG h0 T ⟨rfl, rfl, rfl, rfl⟩ he (by rw [hst]; exact hC) hg
    | false =>
      rw [if_neg (by decide)]
      by_cases hk : s.h.kd = 1
      · rw [if_pos hk]
        have hst : stOf s = stB := by unfold stOf; rw [if_pos hk]
        rw [hst] at H
        by_cases hc : c = 48 ∨ c = 49
        · rw [if_pos hc]
          exact put_sample hG h0 T c (c - 48) (by omega) (by omega) _ enPB hst stB (by rw [if_pos hk]) (plBit_yes w b s.h s.n sv rv s.rows c hc H)
        · rw [if_neg hc]
          refine (plPut_err c w b s.h s.n sv rv s.rows _ enPB H s.n stB false 3 (by decide) (plBit_no w b s.h s.n sv rv s.rows c c0 c1 hb (by omega) (by omega) H)).mono ?_
          rintro e w' ⟨he, hC, hg⟩
          exact put_wrong hG T (.inl rfl) he hC hg
      · rw [if_neg hk]
        obtain ⟨k, er, hs⟩ : ∃ k er, Nu.stepV s.n c s.h.m = (k, er) := ⟨_, _, rfl⟩
        have hse := Tk.stepV_e s.n c s.h.m
        have hsl := Nu.stepV_le s.n c s.h.m hG.n0 hG.n1
        rw [hs] at hse hsl ⊢
        simp only at hse hsl ⊢
        -- the step
        have hstep : ∀ (k' er' : Int), (∀ W, PlC W b s.h s.n sv rv s.rows 0 0 stD → Calls Tryz.prog 196 #[.pointer (some ⟨b, 0, none⟩), .int .u8 c] W fun e w' => e = .returned (.int .i64 er') ∧ PlC w' b s.h k' sv rv s.rows 0 0 stD ∧ W.grownBy w' (some b)) →
            ∃ fn, (∀ args w, (callFunc fn args).run Tryz.prog w = .ok (.enter fn args) w) ∧ stOf s = .func (.func fn) #[] #[] ∧ Calls Tryz.prog fn #[.pointer (some ⟨b, 0, none⟩), .int .u8 c] w (StR w b s.h k' sv rv s.rows stD false er') := by
          intro k' er' hd'
          by_cases hd : s.d = true
          · have hst : stOf s = stD := by unfold stOf; rw [if_neg hk, if_pos hd]
            rw [hst] at H ⊢
            exact ⟨_, enPD, rfl, plBehind_digit w b s.h s.n sv rv s.rows c c0 c1 hb H k' er' hd'⟩
          · have hst : stOf s = stA := by unfold stOf; rw [if_neg hk, if_neg hd]
            rw [hst] at H ⊢
            exact ⟨_, enPA, rfl, plAhead_digit w b s.h s.n sv rv s.rows c c0 c1 hb H k' er' hd'⟩
        by_cases he0 : er = 0
        · rw [if_pos he0]
          obtain ⟨fn, hn, hst, hcall⟩ := hstep k 0 (fun W hW => by
            have := plDigit_any W b s.h s.n sv rv s.rows 0 0 stD hW hG.n0 hG.n1 (by omega) c c0 c1 k er hs (by omega)
            rw [he0] at this; exact this)
          rw [hst] at H
          refine (plPut_open c w b s.h s.n sv rv s.rows fn hn H k stD hcall).mono ?_
          rintro e w' ⟨he, hC, hg⟩
          have hgl := hsl he0
          have hGd : Pl.Good (Pl.digit s k) := ⟨hG.may, hgl.1, hgl.2, (fun h => absurd h (show ¬ true = false by decide)), (fun h => absurd h hk), hG.one, hG.oneIn, hG.row, hG.rows0, (fun _ => hG.rows1 h0), hG.rows2, .inl rfl, fun _ => rfl, (fun h => absurd h (show ¬ (0 : Int) = 2 by decide))⟩
          exact put_open (s := s) (t := Pl.digit s k) hGd rfl T ⟨rfl, rfl, rfl, rfl⟩ he (by
            have : stOf (Pl.digit s k) = stD := by unfold stOf Pl.digit; rw [if_neg hk, if_pos rfl]
            rw [this]; exact hC) hg
        · rw [if_neg he0]
          by_cases he4 : er = 4
          · rw [if_pos he4]
            obtain ⟨fn, hn, hst, hcall⟩ := hstep s.n 5 (fun W hW => plDigit_range W b s.h s.n sv rv s.rows 0 0 stD hW hG.n0 hG.n1 (by omega) c c0 c1 k er hs he4)
            rw [hst] at H
            refine (plPut_err c w b s.h s.n sv rv s.rows fn hn H s.n stD false 5 (by decide) hcall).mono ?_
            rintro e w' ⟨he, hC, hg⟩
            exact put_wrong hG T (.inr (.inl rfl)) he hC hg
          · rw [if_neg he4]
            have he3 : er = 3 := by omega
            obtain ⟨fn, hn, hst, hcall⟩ := hstep k er (fun W hW => plDigit_any W b s.h s.n sv rv s.rows 0 0 stD hW hG.n0 hG.n1 (by omega) c c0 c1 k er hs he4)
            rw [hst] at H
            refine (plPut_err c w b s.h s.n sv rv s.rows fn hn H k stD false er (by omega) hcall).mono ?_
            rintro e w' ⟨he, hC, hg⟩
            exact put_wrong hG T (.inl he3) he hC hg
  · obtain ⟨n, x, hC, hx⟩ := X.ex
    unfold Pl.put
    rw [if_pos (by omega)]
    refine (plPut_done c w b s.h n sv rv s.rows s.last s.e x h0 hC).mono ?_
    rintro e w' ⟨he, j, rfl⟩
    exact ⟨none, 0, sv, rv, he, ⟨hG, X.z, n, x, hC, fun h => absurd h h0⟩, slk_nil, (fun y hy => by cases hy), .drewN _ _ _, .inl rfl, .inl rfl⟩
set_option maxHeartbeats 1000000 in
theorem plEnd_any {s : Pl.S} (w : World) (b : Nat) (sv rv : Value) (X : PlX w b sv rv s) :
    Calls Tryz.prog 75 #[.pointer (some ⟨b, 0, none⟩)] w (PlPutR w b sv rv (Pl.fin s)) := by
  have HP := Lib.hid (plPut_any 32 (by decide) (by decide) w b sv rv X)
  clear X
  by_cases h0 : (Pl.put s 32).1.last = 0
  · have hf : Pl.fin s = (Pl.wrong (Pl.put s 32).1 6, (Pl.put s 32).2) := by unfold Pl.fin; rw [if_pos h0]
    rw [hf]
    obtain ⟨q, hq⟩ : ∃ q, Pl.put s 32 = q := ⟨_, rfl⟩
    rw [hq] at HP h0 ⊢
    obtain ⟨ol, hol⟩ : ∃ ol, q.2.length = ol := ⟨_, rfl⟩
    have HOL := Lib.hid hol
    have H0 := Lib.hid h0
    clear hf hq hol h0
    go_enter Tryz.func75, Tryz.ntmps75
    go_wp2_with fail
    refine HP.out.mono ?_
    rintro e w2 ⟨a, c, sv', rv', rfl, X2, S2, A2, F2, N2, N3⟩
    obtain ⟨n, x, hC, hx⟩ := X2.ex
    rw [HOL.out, H0.out]
    have HX2 := Lib.hid X2
    have HS2 := Lib.hid S2
    have HA2 := Lib.hid A2
    have HF2 := Lib.hid F2
    have HN2 := Lib.hid N2
    have HN3 := Lib.hid N3
    have HC := Lib.hid hC
    clear X2 S2 A2 F2 N2 N3 hx hC
    go_wp2_with (first | (go_at_call 125; refine (plWrong_any w2 b _ _ _ _ _ _ _ _ HC.out 6).mono ?_; rintro e w3 ⟨rfl, h3, hg3⟩; have hd8 := h3.c8; have HH3 := Lib.hid h3; have HG3 := Lib.hid hg3; clear h3 hg3) | go_quiet (fail))
    go_ret2
    refine ⟨a, c, sv', rv', by rw [HOL.out]; rfl, ⟨Pl.good_wrong HX2.out.g (.inr (.inr rfl)), z_up HX2.out.z HG3.out.size, _, _, HH3.out.drewN _, fun h => absurd h (show ¬ (2 : Int) = 0 by decide)⟩, ?_, HA2.out, (HF2.out.trans (.grown HG3.out (.inl rfl))).trans (.drewN _ _ _), HN2.out, HN3.out⟩
    exact slk_kept (w := w2) HS2.out HA2.out (HG3.out.trans (grown_drew _ _ _))
  · have hf : Pl.fin s = Pl.put s 32 := by unfold Pl.fin; rw [if_neg h0]
    rw [hf]
    obtain ⟨q, hq⟩ : ∃ q, Pl.put s 32 = q := ⟨_, rfl⟩
    rw [hq] at HP h0 ⊢
    obtain ⟨t, ht⟩ : ∃ t, q.1.last = t := ⟨_, rfl⟩
    have h0' : (t == 0) = false := by rw [← ht]; simpa using h0
    obtain ⟨ol, hol⟩ : ∃ ol, q.2.length = ol := ⟨_, rfl⟩
    have HOL := Lib.hid hol
    have HT := Lib.hid ht
    clear hf hq hol h0 ht
    go_enter Tryz.func75, Tryz.ntmps75
    go_wp2_with fail
    refine HP.out.mono ?_
    rintro e w2 ⟨a, c, sv', rv', rfl, X2, S2, A2, F2, N2, N3⟩
    obtain ⟨n, x, hC, hx⟩ := X2.ex
    have hc8 := hC.c8
    rw [HOL.out, HT.out]
    rw [HT.out] at hc8
    have HX2 := Lib.hid X2
    have HS2 := Lib.hid S2
    have HA2 := Lib.hid A2
    have HF2 := Lib.hid F2
    have HN2 := Lib.hid N2
    have HN3 := Lib.hid N3
    clear X2 S2 A2 F2 N2 N3 hx hC
    go_wp2_with (go_quiet (fail))
    go_ret2
    refine ⟨a, c, sv', rv', by rw [HOL.out, HT.out]; rfl, ⟨HX2.out.g, HX2.out.z, HX2.out.ex⟩, HS2.out, HA2.out, HF2.out.trans (.drewN _ _ _), HN2.out, HN3.out⟩
end Go.Proofs.YtmnhiagppicegaaGreat

/- Which heads are read as rasters of digits, and a new reader of one, over any memory. Condition: a head's numbers fit. -/
namespace Go.Proofs.YtmnhiagppicegaaGreat
open Go.RowKit
set_option linter.unusedVariables false

instance (h : Hd.H) : Decidable (Pl.May h) := by unfold Pl.May; infer_instance
theorem Pl.may_no {h : Hd.H} (h1 : ¬ Hd.May h) : decide (Pl.May h) = false := decide_eq_false fun H => h1 H.1
set_option maxHeartbeats 1000000 in
theorem plMay_any (h : Hd.H) (hf : Hj.Fit h) (w : World) :
    Calls Tryz.prog 140 #[agH h] w fun e w' => e = .returned (.bool (decide (Pl.May h))) ∧ Below w.heap.size w w' := by
  have HM := Lib.hid (hmay_any h hf)
  by_cases h1 : Hd.May h
  · have HR := Lib.hid (hraw_any h h1)
    simp only [decide_eq_true h1] at HM
    by_cases h2 : h.kd ≤ 3
    · have X := Lib.hid (show decide (Pl.May h) = true from decide_eq_true ⟨h1, h2⟩)
      simp only [decide_eq_false (show ¬ 3 < h.kd by omega)] at HR
      unfold agH at HM HR ⊢
      clear h1 h2
      go_enter Tryz.func140, Tryz.ntmps140
      go_wp2_with (first | (go_at_call 86; refine (HM.out _).mono ?_; rintro e w9 ⟨rfl, hb9⟩; have hBz := Lib.hid (((Below.refl _ w).alloc (Nat.le_refl _) _).trans (hb9.mono (by simp))); obtain ⟨n0, n1, n2, n3⟩ := ((Hb.new w 49 h).later hb9).cells; clear hb9) | (go_at_call 80; refine (HR.out _).mono ?_; rintro e w8 ⟨rfl, hb8⟩))
      go_ret
      exact ⟨ret_b X.out.symm, hBz.out.trans (hb8.mono hBz.out.size)⟩
    · have X := Lib.hid (show decide (Pl.May h) = false from decide_eq_false fun H => h2 H.2)
      simp only [decide_eq_true (show 3 < h.kd by omega)] at HR
      unfold agH at HM HR ⊢
      clear h1 h2
      go_enter Tryz.func140, Tryz.ntmps140
      go_wp2_with (first | (go_at_call 86; refine (HM.out _).mono ?_; rintro e w9 ⟨rfl, hb9⟩; have hBz := Lib.hid (((Below.refl _ w).alloc (Nat.le_refl _) _).trans (hb9.mono (by simp))); obtain ⟨n0, n1, n2, n3⟩ := ((Hb.new w 49 h).later hb9).cells; clear hb9) | (go_at_call 80; refine (HR.out _).mono ?_; rintro e w8 ⟨rfl, hb8⟩))
      go_ret
      exact ⟨ret_b X.out.symm, hBz.out.trans (hb8.mono hBz.out.size)⟩
  · have X := Lib.hid (Pl.may_no h1)
    simp only [decide_eq_false h1] at HM
    unfold agH at HM ⊢
    clear h1
    go_enter Tryz.func140, Tryz.ntmps140
    go_wp2_with (go_at_call 86; refine (HM.out _).mono ?_; rintro e w9 ⟨rfl, hb9⟩; have hBz := Lib.hid (((Below.refl _ w).alloc (Nat.le_refl _) _).trans (hb9.mono (by simp))))
    go_ret
    exact ⟨ret_b X.out.symm, hBz.out⟩
set_option maxHeartbeats 1000000 in
theorem refPlMay_any (h : Hd.H) (hf : Hj.Fit h) (w : World) :
    Calls Tryz.prog 96 #[agH h] w fun e w' => e = .returned (.bool (decide (Pl.May h))) ∧ Below w.heap.size w w' := by
  have HM := Lib.hid (refMay_any h hf)
  by_cases h1 : Hd.May h
  · simp only [decide_eq_true h1] at HM
    have X := Lib.hid (show decide (Pl.May h) = decide (h.kd < 4) by
      by_cases h2 : h.kd ≤ 3
      · rw [decide_eq_true (show h.kd < 4 by omega)]; exact decide_eq_true ⟨h1, h2⟩
      · rw [decide_eq_false (show ¬ h.kd < 4 by omega)]; exact decide_eq_false fun H => h2 H.2)
    unfold agH at HM ⊢
    clear h1
    go_enter Tryz.func96, Tryz.ntmps96
    go_wp2_with (go_at_call 93; refine (HM.out _).mono ?_; rintro e w9 ⟨rfl, hb9⟩; have hBz := Lib.hid (((Below.refl _ w).alloc (Nat.le_refl _) _).trans (hb9.mono (by simp))); obtain ⟨n0, n1, n2, n3⟩ := ((Hb.new w 112 h).later hb9).cells; clear hb9)
    go_ret
    exact ⟨ret_b X.out.symm, hBz.out⟩
  · have X := Lib.hid (Pl.may_no h1)
    simp only [decide_eq_false h1] at HM
    unfold agH at HM ⊢
    clear h1
    go_enter Tryz.func96, Tryz.ntmps96
    go_wp2_with (go_at_call 93; refine (HM.out _).mono ?_; rintro e w9 ⟨rfl, hb9⟩; have hBz := Lib.hid (((Below.refl _ w).alloc (Nat.le_refl _) _).trans (hb9.mono (by simp))); obtain ⟨n0, n1, n2, n3⟩ := ((Hb.new w 112 h).later hb9).cells; clear hb9)
    go_ret
    exact ⟨ret_b X.out.symm, hBz.out⟩
/-- a new reader -/
def PlNewR (h : Hd.H) (w : World) (e : Ending) (w' : World) : Prop :=
  ∃ b, e = .returned (.tuple #[.pointer (some ⟨b, 0, none⟩), .int .i64 0]) ∧ w.heap.size ≤ b ∧ PlX w' b (.slice none 0 0) (.slice none 0 0) (Pl.new h) ∧ Below w.heap.size w w'
theorem new_x {w : World} {b : Nat} {h : Hd.H} (hm : Pl.May h) {x : Value} (hx : x = stOf (Pl.new h)) (H : PlC w b h 0 (.slice none 0 0) (.slice none 0 0) 0 0 0 x) : PlX w b (.slice none 0 0) (.slice none 0 0) (Pl.new h) :=
  ⟨Pl.good_new hm, (fun k hk => hk.elim (fun h => by subst h; exact ⟨Nat.le_refl _, H.lt⟩) fun h => h.elim (fun h => by cases h) fun h => by cases h), 0, x, H, fun _ => ⟨rfl, hx, World.ownsRow_nil _ _ _ _, World.ownsRow_nil _ _ _ _⟩⟩
set_option maxRecDepth 100000 in
set_option maxHeartbeats 1000000 in
theorem plNew_yes (h : Hd.H) (hf : Hj.Fit h) (hm : Pl.May h) (w : World) :
    Calls Tryz.prog 146 #[agH h] w (PlNewR h w) := by
  have HM := Lib.hid (plMay_any h hf)
  simp only [decide_eq_true hm] at HM
  by_cases hk : h.kd = 1
  · have hx : stB = stOf (Pl.new h) := by unfold stOf; rw [if_pos (show (Pl.new h).h.kd = 1 from hk)]
    have HX := Lib.hid hx
    have hk' : (h.kd == 1) = true := by simpa using hk
    have HM' := Lib.hid hm
    unfold agH at HM ⊢
    clear hk hx hm
    go_enter Tryz.func146, Tryz.ntmps146
    go_wp2_with (go_at_call 140; refine (HM.out _).mono ?_; rintro e w9 ⟨rfl, hb9⟩; have hBz := Lib.hid (((Below.refl _ w).alloc (Nat.le_refl _) _).trans (hb9.mono (by simp))); have hz9 := Lib.hid (show w.heap.size + 1 ≤ w9.heap.size by have := hb9.size; simpa using this); obtain ⟨n0, n1, n2, n3⟩ := ((Hb.new w 49 h).later hb9).cells; have hlt : w.heap.size < w9.heap.size := (by have := hb9.size; simp at this; omega); have hne : ¬ w.heap.size = w9.heap.size := Nat.ne_of_lt hlt; clear hb9)
    go_ret2
    refine ⟨w9.heap.size, rfl, by have := hBz.out.size; omega, new_x HM'.out HX.out ?_, ?_⟩
    · exact (plain_cells w9 h (.slice none 0 0) (.slice none 0 0) 0 0 0 0 stB)
    · exact hBz.out.alloc hBz.out.size _
  · have hx : stA = stOf (Pl.new h) := by unfold stOf; rw [if_neg (show ¬ (Pl.new h).h.kd = 1 from hk)]; rfl
    have HX := Lib.hid hx
    have hk' : (h.kd == 1) = false := by simpa using hk
    have HM' := Lib.hid hm
    unfold agH at HM ⊢
    clear hk hx hm
    go_enter Tryz.func146, Tryz.ntmps146
    go_wp2_with (go_at_call 140; refine (HM.out _).mono ?_; rintro e w9 ⟨rfl, hb9⟩; have hBz := Lib.hid (((Below.refl _ w).alloc (Nat.le_refl _) _).trans (hb9.mono (by simp))); obtain ⟨n0, n1, n2, n3⟩ := ((Hb.new w 49 h).later hb9).cells; have hlt : w.heap.size < w9.heap.size := (by have := hb9.size; simp at this; omega); have hne : ¬ w.heap.size = w9.heap.size := Nat.ne_of_lt hlt; clear hb9)
    go_ret2
    refine ⟨w9.heap.size, rfl, by have := hBz.out.size; omega, new_x HM'.out HX.out ?_, ?_⟩
    · exact (plain_cells w9 h (.slice none 0 0) (.slice none 0 0) 0 0 0 0 stA)
    · exact hBz.out.alloc hBz.out.size _
set_option maxHeartbeats 1000000 in
theorem plNew_no (h : Hd.H) (hf : Hj.Fit h) (hm : ¬ Pl.May h) (w : World) :
    Calls Tryz.prog 146 #[agH h] w fun e w' => e = .returned (.tuple #[.pointer none, .int .i64 1]) ∧ Below w.heap.size w w' := by
  have HM := Lib.hid (plMay_any h hf)
  simp only [decide_eq_false hm] at HM
  unfold agH at HM ⊢
  clear hm
  go_enter Tryz.func146, Tryz.ntmps146
  go_wp2_with (go_at_call 140; refine (HM.out _).mono ?_; rintro e w9 ⟨rfl, hb9⟩; have hBz := Lib.hid (((Below.refl _ w).alloc (Nat.le_refl _) _).trans (hb9.mono (by simp))))
  go_ret2
  exact ⟨rfl, hBz.out⟩
end Go.Proofs.YtmnhiagppicegaaGreat

/- Heads that are made of any: at most so wide and high; of rasters of digits. Condition: a head's numbers fit. -/
namespace Go.Proofs.YtmnhiagppicegaaGreat
open Go.RowKit
set_option linter.unusedVariables false
namespace Pl
def goodM (M : Int) (h : Hd.H) : Hd.H := ⟨1 + Ar.around h.kd 6, 1 + Ar.around h.w M, 1 + Ar.around h.h M, if Hd.bits (1 + Ar.around h.kd 6) = true then 1 else 1 + Ar.around h.m 65535⟩
def headV (M : Int) (h : Hd.H) : Hd.H := if 3 < (goodM M h).kd then ⟨(goodM M h).kd - 3, (goodM M h).w, (goodM M h).h, (goodM M h).m⟩ else goodM M h
end Pl
end Go.Proofs.YtmnhiagppicegaaGreat

/- Which heads are read as rasters of bytes; heads made of any; how many bytes a row has: of the code and of the document, over any memory. Condition: a head's numbers fit. -/
namespace Go.Proofs.YtmnhiagppicegaaGreat
open Go.RowKit
set_option linter.unusedVariables false

instance (h : Hd.H) : Decidable (Rw.May h) := by unfold Rw.May; infer_instance
theorem Rw.may_no {h : Hd.H} (h1 : ¬ Hd.May h) : decide (Rw.May h) = false := decide_eq_false fun H => h1 H.1
def Rw.headV (M : Int) (h : Hd.H) : Hd.H := if (Pl.goodM M h).kd < 4 then ⟨(Pl.goodM M h).kd + 3, (Pl.goodM M h).w, (Pl.goodM M h).h, (Pl.goodM M h).m⟩ else Pl.goodM M h
set_option maxHeartbeats 1000000 in
theorem rwMay_any (h : Hd.H) (hf : Hj.Fit h) (w : World) :
    Calls Tryz.prog 136 #[agH h] w fun e w' => e = .returned (.bool (decide (Rw.May h))) ∧ Below w.heap.size w w' := by
  have HM := Lib.hid (hmay_any h hf)
  by_cases h1 : Hd.May h
  · have HR := Lib.hid (hraw_any h h1)
    simp only [decide_eq_true h1] at HM
    by_cases h2 : 4 ≤ h.kd
    · have X := Lib.hid (show decide (Rw.May h) = true from decide_eq_true ⟨h1, h2⟩)
      simp only [decide_eq_true (show 3 < h.kd by omega)] at HR
      unfold agH at HM HR ⊢
      clear h1 h2
      go_enter Tryz.func136, Tryz.ntmps136
      go_wp2_with (first | (go_at_call 86; refine (HM.out _).mono ?_; rintro e w9 ⟨rfl, hb9⟩; have hBz := Lib.hid (((Below.refl _ w).alloc (Nat.le_refl _) _).trans (hb9.mono (by simp))); obtain ⟨n0, n1, n2, n3⟩ := ((Hb.new w 49 h).later hb9).cells; clear hb9) | (go_at_call 80; refine (HR.out _).mono ?_; rintro e w8 ⟨rfl, hb8⟩))
      go_ret
      exact ⟨ret_b X.out.symm, hBz.out.trans (hb8.mono hBz.out.size)⟩
    · have X := Lib.hid (show decide (Rw.May h) = false from decide_eq_false fun H => h2 H.2)
      simp only [decide_eq_false (show ¬ 3 < h.kd by omega)] at HR
      unfold agH at HM HR ⊢
      clear h1 h2
      go_enter Tryz.func136, Tryz.ntmps136
      go_wp2_with (first | (go_at_call 86; refine (HM.out _).mono ?_; rintro e w9 ⟨rfl, hb9⟩; have hBz := Lib.hid (((Below.refl _ w).alloc (Nat.le_refl _) _).trans (hb9.mono (by simp))); obtain ⟨n0, n1, n2, n3⟩ := ((Hb.new w 49 h).later hb9).cells; clear hb9) | (go_at_call 80; refine (HR.out _).mono ?_; rintro e w8 ⟨rfl, hb8⟩))
      go_ret
      exact ⟨ret_b X.out.symm, hBz.out.trans (hb8.mono hBz.out.size)⟩
  · have X := Lib.hid (Rw.may_no h1)
    simp only [decide_eq_false h1] at HM
    unfold agH at HM ⊢
    clear h1
    go_enter Tryz.func136, Tryz.ntmps136
    go_wp2_with (go_at_call 86; refine (HM.out _).mono ?_; rintro e w9 ⟨rfl, hb9⟩; have hBz := Lib.hid (((Below.refl _ w).alloc (Nat.le_refl _) _).trans (hb9.mono (by simp))))
    go_ret
    exact ⟨ret_b X.out.symm, hBz.out⟩
set_option maxHeartbeats 1000000 in
theorem refRwMay_any (h : Hd.H) (hf : Hj.Fit h) (w : World) :
    Calls Tryz.prog 97 #[agH h] w fun e w' => e = .returned (.bool (decide (Rw.May h))) ∧ Below w.heap.size w w' := by
  have HM := Lib.hid (refMay_any h hf)
  by_cases h1 : Hd.May h
  · simp only [decide_eq_true h1] at HM
    have X := Lib.hid (show decide (Rw.May h) = decide (3 < h.kd) by
      by_cases h2 : 4 ≤ h.kd
      · rw [decide_eq_true (show 3 < h.kd by omega)]; exact decide_eq_true ⟨h1, h2⟩
      · rw [decide_eq_false (show ¬ 3 < h.kd by omega)]; exact decide_eq_false fun H => h2 H.2)
    unfold agH at HM ⊢
    clear h1
    go_enter Tryz.func97, Tryz.ntmps97
    go_wp2_with (go_at_call 93; refine (HM.out _).mono ?_; rintro e w9 ⟨rfl, hb9⟩; have hBz := Lib.hid (((Below.refl _ w).alloc (Nat.le_refl _) _).trans (hb9.mono (by simp))); obtain ⟨n0, n1, n2, n3⟩ := ((Hb.new w 112 h).later hb9).cells; clear hb9)
    go_ret
    exact ⟨ret_b X.out.symm, hBz.out⟩
  · have X := Lib.hid (Rw.may_no h1)
    simp only [decide_eq_false h1] at HM
    unfold agH at HM ⊢
    clear h1
    go_enter Tryz.func97, Tryz.ntmps97
    go_wp2_with (go_at_call 93; refine (HM.out _).mono ?_; rintro e w9 ⟨rfl, hb9⟩; have hBz := Lib.hid (((Below.refl _ w).alloc (Nat.le_refl _) _).trans (hb9.mono (by simp))); obtain ⟨n0, n1, n2, n3⟩ := ((Hb.new w 112 h).later hb9).cells; clear hb9)
    go_ret
    exact ⟨ret_b X.out.symm, hBz.out⟩
set_option maxHeartbeats 1000000 in
theorem refWide_any (h : Hd.H) (w : World) :
    Calls Tryz.prog 99 #[agH h] w fun e w' => e = .returned (.int .i64 (Rw.wide h : Int)) ∧ Below w.heap.size w w' := by
  rcases Rw.wide_at h with ⟨h1, h2⟩ | ⟨h1, h2⟩
  all_goals
    rw [h2]
    unfold agH
    clear h2
    go_enter Tryz.func99, Tryz.ntmps99
    go_wp2
    go_returns
    exact ⟨rfl, by go_grown⟩
end Go.Proofs.YtmnhiagppicegaaGreat

/- Rows of numbers in memory of a call's own: how one grows by one number, is made, is copied. General facts; no condition. -/
namespace Go.Proofs.YtmnhiagppicegaaGreat
open Go.RowKit
set_option linter.unusedVariables false
namespace Rw
theorem wpList_app1 {P : Program} {w : World} {ops : Array Oper} {rest : List Oper} {o : Oper} {a : Act} {Q : Exit → Act → World → Prop} (hgd : o.guard = none) (s x : Operand) (t : TypeId)
    (ho : o.op = .call { callee := .builtin .append, args := #[s, x], argTypes := #[t, t] })
    (base : Nat) (e : TypeId) (i : TypeInfo) (z : Value) (bytes : Nat) (ht : P.underlying t = some (.slice e)) (hi : P.info? e = some i) (hz : i.zero = some z) (hzc : z.cells.size = 1)
    (hsize : i.size = 1) (hby : i.bytes = bytes) (v : Value) (n : Nat) (xs : List Value) (hs : a.eval s = v) (hown : w.ownsRow base e 1 v n xs)
    (g : Nat) (y : Value) (hyc : y.oneCell' = true) (hx : a.eval x = .slice (some ⟨g, 0, none⟩) 1 1) (hy : w.cell? ⟨g, 0, none⟩ = some y) (h63 : n + 1 ≤ maxLen) (hbytes : (n + 1) * bytes ≤ 140737488355328) (hbase : base ≤ w.heap.size)
    (h : ∀ v' w', w'.ownsRow base e 1 v' (n + 1) (xs ++ [y]) → w.grownBy w' v.ownBlock → (v'.ownBlock = v.ownBlock ∨ v'.ownBlock = some w.heap.size) → wpList P ops Q rest (a.put o.dst v') w') : wpList P ops Q (o :: rest) a w := by
  refine wpList_plain hgd fun K hK => ?_
  obtain ⟨v', w', hr, h2, h3, _, h4⟩ := run_append_own_at (P := P) w base t o.type e i z 1 bytes ht hi hz hsize hby hzc (by decide) v n xs hown ⟨g, 0, none⟩ 1 1 [y] (by simp) (fun j u hu => by
      cases j with
      | zero => simp at hu; subst hu; simpa [Addr.add] using hy
      | succ j => simp at hu) (fun u hu => by rw [List.mem_singleton.1 hu]; exact hyc) h63 hbytes hbase
  unfold Oper.wp execOp
  simp only [ho, resolve, invoke, builtin, Sem.run_bind, Sem.run_pure, Result.andThen_ok, List.map_toArray, List.map_cons, List.map_nil, hs, hx, hr]
  exact hK _ _ (h v' w' h2 h3 h4)
/-- numbers in a block of the call's own -/
def OwnG (base : Nat) (w : World) (g : Nat) (L : List Int) : Prop := base ≤ g ∧ w.heap[g]? = some (.cells (L.map (Value.int .u64)).toArray 26 (0, 0))
theorem OwnG.lt {base g : Nat} {w : World} {L : List Int} (h : OwnG base w g L) : g < w.heap.size := (Array.getElem?_eq_some_iff.1 h.2).1
theorem OwnG.later {base g : Nat} {w w' : World} {L : List Int} (h : OwnG base w g L) (hb : Below w.heap.size w w') : OwnG base w' g L := ⟨h.1, (hb.block g h.lt).trans h.2⟩
theorem OwnG.mono {base base' g : Nat} {w : World} {L : List Int} (h : OwnG base w g L) (hb : base' ≤ base) : OwnG base' w g L := ⟨Nat.le_trans hb h.1, h.2⟩
theorem OwnG.cell {base g : Nat} {w : World} {L : List Int} (h : OwnG base w g L) {i : Nat} (hi : i < L.length) : w.cell? ⟨g, i, none⟩ = some (.int .u64 (L.getD i 0)) := by
  simp [World.cell?, h.2, List.getD_eq_getElem?_getD, List.getElem?_eq_getElem hi]
theorem OwnG.sl {base g : Nat} {w : World} {L : List Int} (h : OwnG base w g L) : SlK .u64 w (some ⟨g, 0, none⟩) L.length L := by
  refine ⟨rfl, .inr ⟨g, 0, rfl, fun i hi => ?_⟩⟩
  rw [Nat.zero_add]; exact h.cell hi
theorem OwnG.own {base g : Nat} {w : World} {L : List Int} (h : OwnG base w g L) : OwnK .u64 base w (some ⟨g, 0, none⟩) L :=
  .inr ⟨g, rfl, h.1, h.lt, fun i hi => h.cell hi, fun i => by simp [World.frozen?, h.2]⟩
theorem heapNew (w : World) (o : Obj) : (w.alloc o).heap[w.heap.size]? = some o := World.alloc_heap_new w o
theorem heapOld (w : World) (o : Obj) {g : Nat} {x : Obj} (h : w.heap[g]? = some x) : (w.alloc o).heap[g]? = some x := by
  rw [Below.heap_alloc w o g (Array.getElem?_eq_some_iff.1 h).1]; exact h
theorem heapSet (w : World) (a : Addr) (v : Value) {g : Nat} {x : Obj} (h : w.heap[g]? = some x) (hne : g ≠ a.block) : (w.setCell a v).heap[g]? = some x := by
  rw [Below.heap_setCell w a v g hne]; exact h
theorem made_noughts (n : Nat) : madeCells #[Value.int .u64 0] n = ((List.replicate n (0 : Int)).map (Value.int .u64)).toArray := by
  apply Array.ext
  · simp [madeCells]
  · intro i h1 h2
    simp [madeCells, Nat.mod_one]
theorem ownG_row {base g : Nat} {w : World} {L : List Int} (h : OwnG base w g L) (off : Nat) (cs : List Int) : OwnG base (w.setRow g (splice (L.map (Value.int .u64)) off (cs.map (Value.int .u64))).toArray) g (splice L off cs) := by
  refine ⟨h.1, ?_⟩
  rw [setRow_heap w g _ _ _ _ h.2]
  simp [splice]
theorem one_px (zs : List Int) : ∀ u ∈ zs.map (Value.int .u64), u.oneCell' = true := by
  intro u hu
  obtain ⟨y, _, rfl⟩ := List.mem_map.1 hu
  rfl
theorem slk_pos {q : IntKind} {w : World} {a : Option Addr} {n : Nat} {l : List Int} (h : SlK q w a n l) (hn : 0 < n) : ∃ g o, a = some ⟨g, o, none⟩ ∧ ∀ i, i < n → w.cell? ⟨g, o + i, none⟩ = some (.int q (l.getD i 0)) := by
  rcases h.2 with h2 | ⟨g, o, e, hc⟩
  · omega
  · exact ⟨g, o, e, hc⟩
theorem slk_src {w : World} {a : Option Addr} {n : Nat} {zs : List Int} (h : SlK .u64 w a n zs) (hn : 0 < n) : ∃ ad, a = some ad ∧ ∀ j v, (zs.map (Value.int .u64))[j]? = some v → w.cell? (ad.add j) = some v := by
  obtain ⟨b, off, rfl, hc⟩ := slk_pos h hn
  refine ⟨_, rfl, fun j v hv => ?_⟩
  rw [List.getElem?_map] at hv
  rcases Nat.lt_or_ge j zs.length with hj | hj
  · rw [List.getElem?_eq_getElem hj] at hv
    rw [addrK_add, hc j (by rw [← h.1]; exact hj), ← hv, List.getD_eq_getElem?_getD, List.getElem?_eq_getElem hj]; rfl
  · rw [List.getElem?_eq_none hj] at hv; cases hv
theorem wpList_copy_row {P : Program} {w : World} {ops : Array Oper} {rest : List Oper} {o : Oper} {a : Act} {Q : Exit → Act → World → Prop} (hgd : o.guard = none) (d s : Operand) (dT sT : TypeId)
    (ho : o.op = .call { callee := .builtin .copy, args := #[d, s], argTypes := #[dT, sT] }) (elem : TypeId) (hu : P.underlying dT = some (.slice elem)) (hsz : (P.info? elem).map (·.size) = some 1)
    (g off dLen dCap : Nat) (ad : Addr) (sLen sCap : Nat) (hd : a.eval d = .slice (some ⟨g, off, none⟩) dLen dCap) (hs : a.eval s = .slice (some ad) sLen sCap)
    (cur : List Value) (t : TypeId) (hg : w.heap[g]? = some (.cells cur.toArray t (0, 0))) (cs : List Value) (hn : cs.length = Nat.min sLen dLen)
    (hsrc : ∀ j v, cs[j]? = some v → w.cell? (ad.add j) = some v) (hfit : off + cs.length ≤ cur.length) (h1 : ∀ v ∈ cs, v.oneCell' = true)
    (h : ∀ v9, wpList P ops Q rest (a.put o.dst v9) (w.setRow g (splice cur off cs).toArray)) : wpList P ops Q (o :: rest) a w := by
  refine wpList_copy_own hgd d s dT sT ho elem hu hsz g off dLen dCap ad sLen sCap hd hs cur.toArray t hg cs hn hsrc (by simpa using hfit) h1 ?_
  have h' := h (goInt cs.length)
  unfold splice at h'
  exact h'
theorem slk_nil {w : World} : SlK .u64 w none ([] : List Int).length [] := ⟨rfl, .inl rfl⟩
theorem slk_row {w : World} {base k : Nat} {v : Value} {l : List Int} (hr : w.ownsRow base 26 1 v k (pixs l)) (hk : l.length = k) :
    ∃ a c, v = .slice a k c ∧ SlK .u64 w a k l := by
  rcases hr.2 with ⟨rfl, rfl⟩ | ⟨g, cap, cur, rfl, hb, hg, hle, hm, hs, ht⟩
  · exact ⟨none, 0, rfl, hk, .inl rfl⟩
  · exact ⟨_, cap, rfl, slk_of_row (c := cap) hr hk⟩
theorem size_px : (Tryz.prog.info? 26).map (·.size) = some 1 := by kernel_rfl
end Rw
end Go.Proofs.YtmnhiagppicegaaGreat

/- A reader of bytes in a block of its own, over any memory: what it is made of, and what its small parts do. Condition: its head may be. -/
namespace Go.Proofs.YtmnhiagppicegaaGreat
open Go.RowKit
set_option linter.unusedVariables false

/-- the eleven cells of a reader -/
def RwC (w : World) (b : Nat) (h : Hd.H) (n : Int) (sv rv : Value) (rows t f : Int) (x : Value) : Prop :=
  w.heap[b]? = some (.cells #[.int .i64 h.kd, .int .i64 h.w, .int .i64 h.h, .int .i64 h.m, .int .i64 n, sv, rv, .int .i64 rows, .int .i64 t, .int .i64 f, x] 254 (0, 0))
section
variable {w w' : World} {b : Nat} {h : Hd.H} {n : Int} {sv rv : Value} {rows t f : Int} {x : Value}
theorem RwC.lt (H : RwC w b h n sv rv rows t f x) : b < w.heap.size := (Array.getElem?_eq_some_iff.1 H).1
theorem RwC.later (H : RwC w b h n sv rv rows t f x) (hb : Below w.heap.size w w') : RwC w' b h n sv rv rows t f x := (hb.block b H.lt).trans H
theorem RwC.kept {row : Option Nat} (H : RwC w b h n sv rv rows t f x) (hg : w.grownBy w' row) (hne : some b ≠ row) : RwC w' b h n sv rv rows t f x := (hg.block b H.lt hne).trans H
theorem RwC.sep {Z : Nat → Prop} (H : RwC w b h n sv rv rows t f x) (hs : Sep Z w w') (hz : ¬ Z b) : RwC w' b h n sv rv rows t f x := (hs.block b H.lt hz).trans H
theorem RwC.drewN (H : RwC w b h n sv rv rows t f x) (k : Nat) : RwC (w.drewN k) b h n sv rv rows t f x := H
theorem RwC.drew (H : RwC w b h n sv rv rows t f x) : RwC w.drew b h n sv rv rows t f x := H
theorem RwC.alloc (H : RwC w b h n sv rv rows t f x) (o : Obj) : RwC (w.alloc o) b h n sv rv rows t f x := H.kept (World.grownBy_alloc w o none) (by simp)
theorem RwC.fr (H : RwC w b h n sv rv rows t f x) (o : Nat) : w.frozen? ⟨b, o, none⟩ = false := by have h' : w.heap[b]? = _ := H; simp [World.frozen?, h']
theorem RwC.c0 (H : RwC w b h n sv rv rows t f x) : w.cell? ⟨b, 0, none⟩ = some (.int .i64 h.kd) := by have h' : w.heap[b]? = _ := H; simp [World.cell?, h']
theorem RwC.c1 (H : RwC w b h n sv rv rows t f x) : w.cell? ⟨b, 1, none⟩ = some (.int .i64 h.w) := by have h' : w.heap[b]? = _ := H; simp [World.cell?, h']
theorem RwC.c2 (H : RwC w b h n sv rv rows t f x) : w.cell? ⟨b, 2, none⟩ = some (.int .i64 h.h) := by have h' : w.heap[b]? = _ := H; simp [World.cell?, h']
theorem RwC.c3 (H : RwC w b h n sv rv rows t f x) : w.cell? ⟨b, 3, none⟩ = some (.int .i64 h.m) := by have h' : w.heap[b]? = _ := H; simp [World.cell?, h']
theorem RwC.c4 (H : RwC w b h n sv rv rows t f x) : w.cell? ⟨b, 4, none⟩ = some (.int .i64 n) := by have h' : w.heap[b]? = _ := H; simp [World.cell?, h']
theorem RwC.c5 (H : RwC w b h n sv rv rows t f x) : w.cell? ⟨b, 5, none⟩ = some (sv) := by have h' : w.heap[b]? = _ := H; simp [World.cell?, h']
theorem RwC.c6 (H : RwC w b h n sv rv rows t f x) : w.cell? ⟨b, 6, none⟩ = some (rv) := by have h' : w.heap[b]? = _ := H; simp [World.cell?, h']
theorem RwC.c7 (H : RwC w b h n sv rv rows t f x) : w.cell? ⟨b, 7, none⟩ = some (.int .i64 rows) := by have h' : w.heap[b]? = _ := H; simp [World.cell?, h']
theorem RwC.c8 (H : RwC w b h n sv rv rows t f x) : w.cell? ⟨b, 8, none⟩ = some (.int .i64 t) := by have h' : w.heap[b]? = _ := H; simp [World.cell?, h']
theorem RwC.c9 (H : RwC w b h n sv rv rows t f x) : w.cell? ⟨b, 9, none⟩ = some (.int .i64 f) := by have h' : w.heap[b]? = _ := H; simp [World.cell?, h']
theorem RwC.c10 (H : RwC w b h n sv rv rows t f x) : w.cell? ⟨b, 10, none⟩ = some (x) := by have h' : w.heap[b]? = _ := H; simp [World.cell?, h']
theorem RwC.put4 (H : RwC w b h n sv rv rows t f x) (y : Int) : RwC (w.setCell ⟨b, 4, none⟩ (.int .i64 y)) b h y sv rv rows t f x := by
  have h' : w.heap[b]? = _ := H
  simpa [RwC] using Go.heap_setCell_same w b 4 _ _ (.int .i64 y) h'
theorem RwC.put5 (H : RwC w b h n sv rv rows t f x) (y : Value) : RwC (w.setCell ⟨b, 5, none⟩ y) b h n y rv rows t f x := by
  have h' : w.heap[b]? = _ := H
  simpa [RwC] using Go.heap_setCell_same w b 5 _ _ y h'
theorem RwC.put6 (H : RwC w b h n sv rv rows t f x) (y : Value) : RwC (w.setCell ⟨b, 6, none⟩ y) b h n sv y rows t f x := by
  have h' : w.heap[b]? = _ := H
  simpa [RwC] using Go.heap_setCell_same w b 6 _ _ y h'
theorem RwC.put7 (H : RwC w b h n sv rv rows t f x) (y : Int) : RwC (w.setCell ⟨b, 7, none⟩ (.int .i64 y)) b h n sv rv y t f x := by
  have h' : w.heap[b]? = _ := H
  simpa [RwC] using Go.heap_setCell_same w b 7 _ _ (.int .i64 y) h'
theorem RwC.put8 (H : RwC w b h n sv rv rows t f x) (y : Int) : RwC (w.setCell ⟨b, 8, none⟩ (.int .i64 y)) b h n sv rv rows y f x := by
  have h' : w.heap[b]? = _ := H
  simpa [RwC] using Go.heap_setCell_same w b 8 _ _ (.int .i64 y) h'
theorem RwC.put9 (H : RwC w b h n sv rv rows t f x) (y : Int) : RwC (w.setCell ⟨b, 9, none⟩ (.int .i64 y)) b h n sv rv rows t y x := by
  have h' : w.heap[b]? = _ := H
  simpa [RwC] using Go.heap_setCell_same w b 9 _ _ (.int .i64 y) h'
theorem RwC.put10 (H : RwC w b h n sv rv rows t f x) (y : Value) : RwC (w.setCell ⟨b, 10, none⟩ y) b h n sv rv rows t f y := by
  have h' : w.heap[b]? = _ := H
  simpa [RwC] using Go.heap_setCell_same w b 10 _ _ y h'
end
theorem raw_cells (w : World) (h : Hd.H) (sv rv : Value) (n rows t f : Int) (x : Value) : RwC (w.alloc (.cells #[.int .i64 h.kd, .int .i64 h.w, .int .i64 h.h, .int .i64 h.m, .int .i64 n, sv, rv, .int .i64 rows, .int .i64 t, .int .i64 f, x] 254)) w.heap.size h n sv rv rows t f x := World.alloc_heap_new w _
/-- a reader that is neither wrong nor told its fault: its block and its rows, and what is so of them against the world W in which it was sv, rv -/
structure RwT (W : World) (b : Nat) (h : Hd.H) (sv0 rv0 : Value) (n : Int) (sv rv : Value) (one row : List Int) (rows t : Int) (x : Value) (w : World) : Prop where
  c : RwC w b h n sv rv rows t 0 x
  s : w.ownsRow (b + 1) 3 1 sv one.length (ints one)
  r : w.ownsRow (b + 1) 26 1 rv row.length (pixs row)
  f : Sep (PlZ b sv0 rv0) W w
  ns : PlNew W sv0 sv
  nr : PlNew W rv0 rv
section
variable {W w : World} {b : Nat} {h : Hd.H} {sv0 rv0 : Value} {n : Int} {sv rv : Value} {one row : List Int} {rows t : Int} {x : Value}
theorem RwT.start (c : RwC w b h n sv rv rows t 0 x) (s : w.ownsRow (b + 1) 3 1 sv one.length (ints one)) (r : w.ownsRow (b + 1) 26 1 rv row.length (pixs row)) : RwT w b h sv rv n sv rv one row rows t x w :=
  ⟨c, s, r, .refl _ _, .inl rfl, .inl rfl⟩
theorem RwT.bls (T : RwT W b h sv0 rv0 n sv rv one row rows t x w) : ∀ k, sv.ownBlock = some k → b + 1 ≤ k := fun k hk => (T.s.lt k hk).1
theorem RwT.blr (T : RwT W b h sv0 rv0 n sv rv one row rows t x w) : ∀ k, rv.ownBlock = some k → b + 1 ≤ k := fun k hk => (T.r.lt k hk).1
theorem RwT.nes (T : RwT W b h sv0 rv0 n sv rv one row rows t x w) : some b ≠ sv.ownBlock := fun e => by have := T.bls b e.symm; omega
theorem RwT.ner (T : RwT W b h sv0 rv0 n sv rv one row rows t x w) : some b ≠ rv.ownBlock := fun e => by have := T.blr b e.symm; omega
theorem RwT.below (T : RwT W b h sv0 rv0 n sv rv one row rows t x w) {w' : World} (hb : Below w.heap.size w w') : RwT W b h sv0 rv0 n sv rv one row rows t x w' :=
  ⟨T.c.later hb, below_row T.s hb, below_row T.r hb, ⟨hb.os.trans T.f.os, hb.tape.trans T.f.tape, hb.output.trans T.f.output, Nat.le_trans T.f.size hb.size, fun k hk hz => (hb.block k (Nat.lt_of_lt_of_le hk T.f.size)).trans (T.f.block k hk hz)⟩, T.ns, T.nr⟩
theorem RwT.drew (T : RwT W b h sv0 rv0 n sv rv one row rows t x w) : RwT W b h sv0 rv0 n sv rv one row rows t x w.drew := ⟨T.c, T.s, T.r, T.f.trans (.drew _ _), T.ns, T.nr⟩
theorem RwT.set4 (T : RwT W b h sv0 rv0 n sv rv one row rows t x w) (y : Int) : RwT W b h sv0 rv0 y sv rv one row rows t x (w.setCell ⟨b, 4, none⟩ (.int .i64 y)) :=
  ⟨T.c.put4 y, set_ownsRow T.s (Nat.lt_succ_self b) _, set_ownsRow T.r (Nat.lt_succ_self b) _, T.f.trans (.setCell _ (.inl rfl) _), T.ns, T.nr⟩
theorem RwT.set7 (T : RwT W b h sv0 rv0 n sv rv one row rows t x w) (y : Int) : RwT W b h sv0 rv0 n sv rv one row y t x (w.setCell ⟨b, 7, none⟩ (.int .i64 y)) :=
  ⟨T.c.put7 y, set_ownsRow T.s (Nat.lt_succ_self b) _, set_ownsRow T.r (Nat.lt_succ_self b) _, T.f.trans (.setCell _ (.inl rfl) _), T.ns, T.nr⟩
theorem RwT.set8 (T : RwT W b h sv0 rv0 n sv rv one row rows t x w) (y : Int) : RwT W b h sv0 rv0 n sv rv one row rows y x (w.setCell ⟨b, 8, none⟩ (.int .i64 y)) :=
  ⟨T.c.put8 y, set_ownsRow T.s (Nat.lt_succ_self b) _, set_ownsRow T.r (Nat.lt_succ_self b) _, T.f.trans (.setCell _ (.inl rfl) _), T.ns, T.nr⟩
/-- the pixels' row is let go -/
theorem RwT.free (T : RwT W b h sv0 rv0 n sv rv one row rows t x w) : RwT W b h sv0 rv0 n sv (.slice none 0 0) one [] rows t x (w.setCell ⟨b, 6, none⟩ (.slice none 0 0)) :=
  ⟨T.c.put6 _, set_ownsRow T.s (Nat.lt_succ_self b) _, World.ownsRow_nil _ _ _ _, T.f.trans (.setCell _ (.inl rfl) _), T.ns, .inr fun k hk => by cases hk⟩
/-- the samples are let go, their memory is not -/
theorem RwT.clear {a : Option Addr} {m c : Nat} (T : RwT W b h sv0 rv0 n (.slice a m c) rv one row rows t x w) (hm : one.length = m) : RwT W b h sv0 rv0 n (.slice a 0 c) rv [] row rows t x (w.setCell ⟨b, 5, none⟩ (.slice a 0 c)) := by
  have hs := T.s
  rw [hm] at hs
  refine ⟨T.c.put5 _, set_ownsRow (ownsRow_zero hs) (Nat.lt_succ_self b) _, set_ownsRow T.r (Nat.lt_succ_self b) _, T.f.trans (.setCell _ (.inl rfl) _), ?_, T.nr⟩
  have e : (Value.slice a 0 c).ownBlock = (Value.slice a m c).ownBlock := by cases a <;> rfl
  unfold PlNew; rw [e]; exact T.ns
/-- a sample more -/
theorem RwT.pushS (T : RwT W b h sv0 rv0 n sv rv one row rows t x w) (hte : 3 ≠ 26) (o : Obj) (y : Int) {w5 : World} {g cc : Nat}
    (hown : w5.ownsRow (b + 1) 3 1 (.slice (some ⟨g, 0, none⟩) (one.length + 1) cc) (one.length + 1) (ints one ++ [.int .i64 y])) (hgrow : (w.alloc o).grownBy w5 sv.ownBlock) (hat : sv.ownBlock = some g ∨ g = (w.alloc o).heap.size) :
    RwC w5 b h n sv rv rows t 0 x ∧ RwT W b h sv0 rv0 n (.slice (some ⟨g, 0, none⟩) (one.length + 1) cc) rv (one ++ [y]) row rows t x (w5.setCell ⟨b, 5, none⟩ (.slice (some ⟨g, 0, none⟩) (one.length + 1) cc)) := by
  have c5 := (T.c.alloc o).kept hgrow T.nes
  have r5 := (T.r.alloc o).kept hgrow (apart_rows (Ne.symm hte) T.r T.s)
  refine ⟨c5, c5.put5 _, ?_, set_ownsRow r5 (Nat.lt_succ_self b) _, ⟨hgrow.os.trans T.f.os, hgrow.tape.trans T.f.tape, hgrow.output.trans T.f.output, ?_, ?_⟩, new_at T.ns hat (by have := T.f.size; simp; omega), T.nr⟩
  · have := set_ownsRow hown (a := ⟨b, 5, none⟩) (Nat.lt_succ_self b) (.slice (some ⟨g, 0, none⟩) (one.length + 1) cc)
    unfold ints at this ⊢
    rw [List.length_append, List.map_append]; exact this
  · have h1 := T.f.size; have h2 := hgrow.size; simp at h2 ⊢; omega
  · intro k hk hz
    have h1 := T.f.size
    rw [Below.heap_setCell _ _ _ _ (fun e => hz (.inl e)), hgrow.block k (by simp; omega) (fun e => hz (.inr (.inl (zone_of (b := b) (z := rv) T.ns e.symm hk))))]
    rw [Below.heap_alloc _ _ _ (by omega)]
    exact T.f.block k hk hz
/-- a pixel more -/
theorem RwT.pushR (T : RwT W b h sv0 rv0 n sv rv one row rows t x w) (hte : 3 ≠ 26) (o : Obj) (y : Int) {w5 : World} {g cc : Nat}
    (hown : w5.ownsRow (b + 1) 26 1 (.slice (some ⟨g, 0, none⟩) (row.length + 1) cc) (row.length + 1) (pixs row ++ [.int .u64 y])) (hgrow : (w.alloc o).grownBy w5 rv.ownBlock) (hat : rv.ownBlock = some g ∨ g = (w.alloc o).heap.size) :
    RwC w5 b h n sv rv rows t 0 x ∧ RwT W b h sv0 rv0 n sv (.slice (some ⟨g, 0, none⟩) (row.length + 1) cc) one (row ++ [y]) rows t x (w5.setCell ⟨b, 6, none⟩ (.slice (some ⟨g, 0, none⟩) (row.length + 1) cc)) := by
  have c5 := (T.c.alloc o).kept hgrow T.ner
  have s5 := (T.s.alloc o).kept hgrow (apart_rows hte T.s T.r)
  refine ⟨c5, c5.put6 _, set_ownsRow s5 (Nat.lt_succ_self b) _, ?_, ⟨hgrow.os.trans T.f.os, hgrow.tape.trans T.f.tape, hgrow.output.trans T.f.output, ?_, ?_⟩, T.ns, new_at T.nr hat (by have := T.f.size; simp; omega)⟩
  · have := set_ownsRow hown (a := ⟨b, 6, none⟩) (Nat.lt_succ_self b) (.slice (some ⟨g, 0, none⟩) (row.length + 1) cc)
    unfold pixs at this ⊢
    rw [List.length_append, List.map_append]; exact this
  · have h1 := T.f.size; have h2 := hgrow.size; simp at h2 ⊢; omega
  · intro k hk hz
    have h1 := T.f.size
    rw [Below.heap_setCell _ _ _ _ (fun e => hz (.inl e)), hgrow.block k (by simp; omega) (fun e => hz (.inr (.inr (zone_of (b := b) (z := rv) T.nr e.symm hk))))]
    rw [Below.heap_alloc _ _ _ (by omega)]
    exact T.f.block k hk hz
end

def rwE (b : Nat) : Value := .func (.func 178) #[.pointer (some ⟨b, 0, none⟩)] #[]
def rwH (b : Nat) : Value := .func (.func 179) #[.pointer (some ⟨b, 0, none⟩)] #[]
def rwL (b : Nat) : Value := .func (.func 180) #[.pointer (some ⟨b, 0, none⟩)] #[]
theorem enRE : ∀ args w, (callFunc 178 args).run Tryz.prog w = .ok (.enter 178 args) w := enters_of Tryz.func178 (by kernel_rfl) rfl
theorem enRH : ∀ args w, (callFunc 179 args).run Tryz.prog w = .ok (.enter 179 args) w := enters_of Tryz.func179 (by kernel_rfl) rfl
theorem enRL : ∀ args w, (callFunc 180 args).run Tryz.prog w = .ok (.enter 180 args) w := enters_of Tryz.func180 (by kernel_rfl) rfl
section
variable (w : World) (b : Nat) (h : Hd.H) (n : Int) (sv rv : Value) (rows t f : Int) (x : Value) (H : RwC w b h n sv rv rows t f x)
include H
theorem rwError_any :
    Calls Tryz.prog 150 #[.pointer (some ⟨b, 0, none⟩)] w fun e w' => e = .returned (.int .i64 f) ∧ w = w' := by
  have hc9 := H.c9
  go_enter Tryz.func150, Tryz.ntmps150
  go_wp2
  go_ret
  exact ⟨rfl, rfl⟩
set_option maxHeartbeats 1000000 in
theorem rwStatus_any :
    Calls Tryz.prog 181 #[.pointer (some ⟨b, 0, none⟩)] w fun e w' => e = .returned (.int .i64 (if f ≠ 0 then 2 else if t = 0 then 1 else 0)) ∧ w = w' := by
  have hc8 := H.c8
  have hc9 := H.c9
  by_cases hf : f = 0
  · have k1 : (f != 0) = false := by simpa using hf
    rw [if_neg (by simpa using hf)]
    by_cases ht : t = 0
    · have k2 : (t == 0) = true := by simpa using ht
      rw [if_pos ht]
      clear hf ht
      go_enter Tryz.func181, Tryz.ntmps181
      go_wp2
      go_returns
      exact ⟨rfl, rfl⟩
    · have k2 : (t == 0) = false := by simpa using ht
      rw [if_neg ht]
      clear hf ht
      go_enter Tryz.func181, Tryz.ntmps181
      go_wp2
      go_returns
      exact ⟨rfl, rfl⟩
  · have k1 : (f != 0) = true := by simpa using hf
    rw [if_pos hf]
    clear hf
    go_enter Tryz.func181, Tryz.ntmps181
    go_wp2
    go_returns
    exact ⟨rfl, rfl⟩
set_option maxHeartbeats 1000000 in
theorem rwHigh_any (c : Int) (c0 : 0 ≤ c) (c1 : c ≤ 255) :
    Calls Tryz.prog 179 #[.pointer (some ⟨b, 0, none⟩), .int .u8 c] w fun e w' => e = .returned (.slice none 0 0) ∧ RwC w' b h (c * 256) sv rv rows t f (rwL b) ∧ w.grownBy w' (some b) := by
  have f4 := H.fr 4
  have f10 := H.fr 10
  have c4 := H.c4
  have c10 := H.c10
  have e2 : wrap64 (c * 256) = c * 256 := by rw [IntWalk.wrap64_in] <;> omega
  go_enter Tryz.func179, Tryz.ntmps179
  go_wp2
  go_ret
  exact ⟨rfl, (H.put4 _).put10 _, (grown_set _ _ _ _).trans (grown_set _ _ _ _)⟩
end
end Go.Proofs.YtmnhiagppicegaaGreat

/- A reader of bytes adds a pixel to its row, and takes the row, over any memory. Condition: its head may be. -/
namespace Go.Proofs.YtmnhiagppicegaaGreat
open Go.RowKit
set_option linter.unusedVariables false

theorem Rw.own_pos {w : World} {base n : Nat} {e : TypeId} {v : Value} {xs : List Value} (h : w.ownsRow base e 1 v (n + 1) xs) : ∃ g c, v = .slice (some ⟨g, 0, none⟩) (n + 1) c := by
  rcases h.2 with ⟨_, he⟩ | ⟨g, cap, cur, rfl, _⟩
  · omega
  · exact ⟨g, cap, rfl⟩
section
variable {W w w' : World} {b : Nat} {h : Hd.H} {sv0 rv0 : Value} {n : Int} {sv rv : Value} {one row : List Int} {rows t : Int} {x : Value}
theorem RwT.clearR {a : Option Addr} {m c : Nat} (T : RwT W b h sv0 rv0 n sv (.slice a m c) one row rows t x w) (hm : row.length = m) : RwT W b h sv0 rv0 n sv (.slice a 0 c) one [] rows t x (w.setCell ⟨b, 6, none⟩ (.slice a 0 c)) := by
  have hs := T.r
  rw [hm] at hs
  refine ⟨T.c.put6 _, set_ownsRow T.s (Nat.lt_succ_self b) _, set_ownsRow (ownsRow_zero hs) (Nat.lt_succ_self b) _, T.f.trans (.setCell _ (.inl rfl) _), T.ns, ?_⟩
  have e : (Value.slice a 0 c).ownBlock = (Value.slice a m c).ownBlock := by cases a <;> rfl
  unfold PlNew; rw [e]; exact T.nr
theorem RwT.drewN (T : RwT W b h sv0 rv0 n sv rv one row rows t x w) (k : Nat) : RwT W b h sv0 rv0 n sv rv one row rows t x (w.drewN k) := ⟨T.c.drewN k, T.s, T.r, T.f.trans (.drewN _ _ _), T.ns, T.nr⟩
theorem RwT.set10 (T : RwT W b h sv0 rv0 n sv rv one row rows t x w) (y : Value) : RwT W b h sv0 rv0 n sv rv one row rows t y (w.setCell ⟨b, 10, none⟩ y) :=
  ⟨T.c.put10 y, set_ownsRow T.s (Nat.lt_succ_self b) _, set_ownsRow T.r (Nat.lt_succ_self b) _, T.f.trans (.setCell _ (.inl rfl) _), T.ns, T.nr⟩
/-- told against an earlier world -/
theorem RwT.base {W0 : World} (T : RwT W b h sv0 rv0 n sv rv one row rows t x w) (hs : Sep (PlZ b sv0 rv0) W0 W) : RwT W0 b h sv0 rv0 n sv rv one row rows t x w :=
  ⟨T.c, T.s, T.r, hs.trans T.f, T.ns.imp_right fun hk i hi => Nat.le_trans hs.size (hk i hi), T.nr.imp_right fun hk i hi => Nat.le_trans hs.size (hk i hi)⟩
end
/-- a row that is handed back, and what its blocks hold then -/
def RwTake (W : World) (b : Nat) (h : Hd.H) (sv0 rv0 : Value) (n : Int) (sv : Value) (one : List Int) (x : Value) (t : Int) (row : List Int) (rows : Int) (out : List Int) (e : Ending) (w' : World) : Prop :=
  ∃ a c rv, e = .returned (.slice a out.length c) ∧ RwT W b h sv0 rv0 n sv rv one row rows t x w' ∧ SlK .u64 w' a out.length out
set_option maxRecDepth 100000 in
set_option maxHeartbeats 2000000 in
theorem rwAdd_any {W w : World} {b : Nat} {h : Hd.H} {sv0 rv0 : Value} {n : Int} {sv rv : Value} {one row : List Int} {rows t : Int} {x : Value} (T : RwT W b h sv0 rv0 n sv rv one row rows t x w) (hr4 : row.length ≤ 4096) (a : Option Addr) (m c : Nat) (l : List Int) (hm : m ≤ 8) (hs : Pq.Sl w a m l) :
    Calls Tryz.prog 198 #[.pointer (some ⟨b, 0, none⟩), .slice a m c] w fun e w' => e = .returned (.tuple #[]) ∧ ∃ rv', RwT W b h sv0 rv0 n sv rv' one (row ++ [Rw.pk l]) rows t x w' := by
  obtain ⟨p0, pi, pz0, pz1, pz2⟩ : ∃ i, Tryz.prog.info? 26 = some i ∧ i.zero = some (.int .u64 0) ∧ i.size = 1 ∧ i.bytes = 8 := (by have h := Tryz.info_px8; cases hh : Tryz.prog.info? 26 with | none => rw [hh] at h; cases h | some i => rw [hh] at h; simp at h; exact ⟨i, rfl, h.1, h.2.1, h.2.2⟩)
  have hte : 3 ≠ 26 := by decide
  have HPK := Lib.hid (Pq.pack_any a m c l w (by omega) hs)
  obtain ⟨p, hp⟩ : ∃ p, Pq.Px.packV l = p := ⟨_, rfl⟩
  rw [hp] at HPK
  have HP : Hid (Rw.pk l = p.1) := Lib.hid (by unfold Rw.pk; rw [hp])
  have HT := Lib.hid T
  have hc6 := T.c.c6
  obtain ⟨k, hk⟩ : ∃ k, row.length = k := ⟨_, rfl⟩
  have HK := Lib.hid hk
  have HR : Hid (w.ownsRow (b + 1) 26 1 rv k (pixs row)) := by show w.ownsRow _ _ _ _ _ _; have := T.r; rw [hk] at this; exact this
  have hbw : b + 1 ≤ w.heap.size := T.c.lt
  have hk3 : k ≤ 4096 := by omega
  have hblt : b < w.heap.size := hbw
  have hbne : ¬ b = w.heap.size := Nat.ne_of_lt hblt
  clear hs hp hk hr4 T
  go_enter Tryz.func198, Tryz.ntmps198
  go_wp2_with (first | (go_at_call 185; refine HPK.out.mono ?_; rintro e w9 ⟨rfl, rfl⟩) | (at_builtin; refine Rw.wpList_app1 rfl _ _ 29 rfl (b + 1) 26 p0 (.int .u64 0) 8 Tryz.underlying29 pi pz0 rfl pz1 pz2 rv k (pixs row) rfl (HR.out.alloc _) w.heap.size (.int .u64 p.1) rfl rfl (by rw [World.cell?_alloc_at _ _ _ _ rfl]; rfl) (by unfold maxLen; omega) (by omega) (by simp; omega) ?_; intro v5 w5 hown hgrow hat; obtain ⟨g, cc, rfl⟩ := Rw.own_pos hown; obtain ⟨q1, q2⟩ := HT.out.pushR hte _ p.1 (by have h := hown; rw [HK.out]; exact h) hgrow (by rcases hat with e | e; exact .inl e.symm; exact .inr (by injection e)); have hd6 := q1.c6; have hf6 := q1.fr 6; have Q2 := Lib.hid q2; clear q1 q2 hown hgrow hat))
  go_end0
  refine ⟨rfl, .slice (some ⟨g, 0, none⟩) (k + 1) cc, ?_⟩
  have h := Q2.out
  rw [← HP.out, HK.out] at h
  exact h
set_option maxRecDepth 100000 in
set_option maxHeartbeats 2000000 in
theorem rwTake_no {W w : World} {b : Nat} {h : Hd.H} {sv0 rv0 : Value} {n : Int} {sv rv : Value} {one row : List Int} {rows t : Int} {x : Value} (T : RwT W b h sv0 rv0 n sv rv one row rows t x w) (hw : (row.length : Int) < h.w) :
    Calls Tryz.prog 199 #[.pointer (some ⟨b, 0, none⟩)] w (RwTake W b h sv0 rv0 n sv one x t row rows []) := by
  have HT := Lib.hid T
  have hc1 := T.c.c1
  obtain ⟨k, hk⟩ : ∃ k, row.length = k := ⟨_, rfl⟩
  rw [hk] at hw
  obtain ⟨a, c, rfl, _⟩ := Rw.slk_row T.r rfl
  have hc6 := T.c.c6
  rw [hk] at hc6 HT
  clear T hk
  go_enter Tryz.func199, Tryz.ntmps199
  go_wp2_with (go_quiet (fail))
  go_returns
  exact ⟨none, 0, _, rfl, HT.out.drewN _, Rw.slk_nil⟩
set_option maxRecDepth 100000 in
set_option maxHeartbeats 4000000 in
theorem rwTake_yes {W w : World} {b : Nat} {h : Hd.H} {sv0 rv0 : Value} {n : Int} {sv rv : Value} {one row : List Int} {rows t : Int} {x : Value} (T : RwT W b h sv0 rv0 n sv rv one row rows t x w) (hw : ¬ (row.length : Int) < h.w) (hw1 : 1 ≤ h.w) (hr4 : row.length ≤ 4096) (rows0 : 0 ≤ rows) (rows1 : rows ≤ 65536) :
    Calls Tryz.prog 199 #[.pointer (some ⟨b, 0, none⟩)] w (RwTake W b h sv0 rv0 n sv one x t [] (rows + 1) row) := by
  have HT := Lib.hid T
  have hc1 := T.c.c1
  obtain ⟨k, hk⟩ : ∃ k, row.length = k := ⟨_, rfl⟩
  rw [hk] at hw
  obtain ⟨a, c, rfl, hsl⟩ := Rw.slk_row T.r rfl
  obtain ⟨ad, rfl, hsrc⟩ := Rw.slk_src hsl (by omega)
  have hc6 := T.c.c6
  have hbw : b < w.heap.size := T.c.lt
  have hbne : ¬ b = w.heap.size := Nat.ne_of_lt hbw
  have hmk := run_make_row' (P := Tryz.prog) 29 26 (.int .u64 0) 8 Tryz.underlying29 Tryz.info_px8 rfl .i64 .i64 k (by omega) (by omega)
  rw [Rw.made_noughts] at hmk
  obtain ⟨cs, hcs⟩ : ∃ cs, ((List.replicate k (0 : Int)).map (Value.int .u64)).toArray = cs := ⟨_, rfl⟩
  rw [hcs] at hmk
  have HCS := Lib.hid hcs
  have m6 := cell_later (box1' w (.cells cs 26)) hc6
  rw [hk] at hc6 HT m6
  have HK := Lib.hid hk
  have HSRC := Lib.hid hsrc
  have e9 : wrap64 (rows + 1) = rows + 1 := by rw [IntWalk.wrap64_in] <;> omega
  have hk4 : k ≤ 4096 := by omega
  clear T hk hcs hsl hsrc hr4 rows0 rows1
  go_enter Tryz.func199, Tryz.ntmps199
  go_upto_region 3 with (go_quiet (fail))
  generalize hW : w.drewN nq = w1
  have HT1 : Hid (RwT W b h sv0 rv0 n sv (.slice (some ad) k c) one row rows t x w1) := by show RwT _ _ _ _ _ _ _ _ _ _ _ _ _ _; rw [← hW]; exact HT.out.drewN _
  have HSRC1 : Hid (∀ j v, (row.map (Value.int .u64))[j]? = some v → w1.cell? (ad.add j) = some v) := Lib.hid (by rw [← hW]; exact HSRC.out)
  clear hW HT HSRC hc6 hc1 m6
  have T1 := HT1.out
  have hbw : b < w1.heap.size := T1.c.lt
  have hbne : ¬ b = w1.heap.size := Nat.ne_of_lt hbw
  have B1 := box1' w1 (.cells cs 26)
  have hc6 := T1.c.c6
  have m6 := cell_later B1 hc6
  have HO : Hid (Rw.OwnG w1.heap.size (w1.alloc (.cells cs 26)) w1.heap.size (List.replicate k 0)) := Lib.hid ⟨Nat.le_refl _, by rw [HCS.out]; exact World.alloc_heap_new _ _⟩
  have HTB := Lib.hid (T1.below B1)
  have HB1 := Lib.hid B1
  have HKM : Hid ((row.map (Value.int .u64)).length = k) := Lib.hid (by rw [List.length_map]; exact HK.out)
  clear T1 B1
  go_upto_region 5 with ((with_reducible show wpList _ _ _ ({ dst := _, op := .call { callee := .builtin .copy, args := _, argTypes := _ }, type := _, pos := _, after := _, guard := _ } :: _) _ _); refine Rw.wpList_copy_row rfl (.tmp 21) (.tmp 25) 29 29 rfl 26 Tryz.underlying29 Rw.size_px w1.heap.size 0 k k ad k c rfl rfl _ _ HO.out.2 (row.map (Value.int .u64)) (by rw [HKM.out]; simp) (fun j v hv => cell_later HB1.out (HSRC1.out j v hv)) (by rw [HKM.out, List.length_map, List.length_replicate]; omega) (Rw.one_px _) ?_; intro v9)
  generalize hW : (w1.alloc (.cells cs 26)).setRow w1.heap.size (splice ((List.replicate k (0 : Int)).map (Value.int .u64)) 0 (row.map (Value.int .u64))).toArray = w2
  have HB2 : Hid (Below w1.heap.size w1 w2) := by show Below _ _ _; rw [← hW]; exact below_setRow HB1.out (Nat.le_refl _) _
  have HO2 : Hid (Rw.OwnG w1.heap.size w2 w1.heap.size row) := by
    show Rw.OwnG _ _ _ _
    have h := Rw.ownG_row HO.out 0 row
    rw [hW] at h
    have e : splice (List.replicate k (0 : Int)) 0 row = row := by unfold splice; have h9 := HK.out; simp [h9]
    rw [e] at h; exact h
  clear hW HO HTB HSRC1 HB1 m6 hc6 hmk
  have HT2 := Lib.hid (HT1.out.below HB2.out)
  have g6 := HT2.out.c.c6
  have g7 := HT2.out.c.c7
  have f6 := HT2.out.c.fr 6
  have f7 := HT2.out.c.fr 7
  have hb2 : ¬ w1.heap.size = b := fun e => hbne e.symm
  go_wp2_with fail
  go_returns
  refine ⟨some ⟨w1.heap.size, 0, none⟩, k, _, by rw [HK.out]; rfl, (HT2.out.clearR HK.out).set7 _, ?_⟩
  have h := HO2.out.2
  exact Rw.OwnG.sl (base := 0) ⟨Nat.zero_le _, Rw.heapSet _ _ _ (Rw.heapSet _ _ _ h hb2) hb2⟩
end Go.Proofs.YtmnhiagppicegaaGreat

/- A new reader of bytes, and how many bytes a row has, over any memory. Condition: a head's numbers fit. -/
namespace Go.Proofs.YtmnhiagppicegaaGreat
open Go.RowKit
set_option linter.unusedVariables false

end Go.Proofs.YtmnhiagppicegaaGreat

/- A reader of bytes is told a sample's last byte, over any memory. Condition: its head may be. -/
namespace Go.Proofs.YtmnhiagppicegaaGreat
open Go.RowKit
set_option linter.unusedVariables false

set_option maxRecDepth 100000 in
set_option maxHeartbeats 2000000 in
theorem rwLow_bad {w : World} {b : Nat} {h : Hd.H} {n : Int} {sv rv : Value} {rows t f : Int} {x : Value} (H : RwC w b h n sv rv rows t f x) (c : Int) (c0 : 0 ≤ c) (c1 : c ≤ 255) (n0 : 0 ≤ n) (n1 : n ≤ 65280) (hb : h.m < n + c) :
    Calls Tryz.prog 180 #[.pointer (some ⟨b, 0, none⟩), .int .u8 c] w fun e w' => e = .returned (.slice none 0 0) ∧ RwC w' b h n sv rv rows 0 5 x ∧ w.grownBy w' (some b) := by
  have hc3 := H.c3
  have hc4 := H.c4
  have c8 := H.c8
  have c9 := H.c9
  have f8 := H.fr 8
  have f9 := H.fr 9
  have e2 : wrap64 (n + c) = n + c := by rw [IntWalk.wrap64_in] <;> omega
  go_enter Tryz.func180, Tryz.ntmps180
  go_wp2
  go_returns
  exact ⟨rfl, (H.put8 _).put9 _, (grown_set _ _ _ _).trans (grown_set _ _ _ _)⟩
/-- what the next part is, behind a sample -/
def rwN (h : Hd.H) (b : Nat) (x : Value) : Value := if 255 < h.m then rwH b else x
set_option maxRecDepth 100000 in
set_option maxHeartbeats 4000000 in
theorem rwLow_more1 {w : World} {b : Nat} {h : Hd.H} (hm : Hd.May h) {n : Int} {sv rv : Value} {one row : List Int} {rows t : Int} {x : Value} (T : RwT w b h sv rv n sv rv one row rows t x w) (c : Int) (c0 : 0 ≤ c) (c1 : c ≤ 255) (n0 : 0 ≤ n) (n1 : n ≤ 65280) (hb : n + c ≤ h.m) (h255 : ¬ 255 < h.m) (ho4 : one.length ≤ 3) (hr4 : row.length ≤ 4096) (hone : (one.length : Int) + 1 < Hj.chan h) (hw : (row.length : Int) < h.w) :
    Calls Tryz.prog 180 #[.pointer (some ⟨b, 0, none⟩), .int .u8 c] w fun e w' => ∃ sv', RwTake w b h sv rv n sv' (one ++ [n + c]) (rwN h b x) t row rows [] e w' := by
  have hF := hformat_any h hm
  unfold Hj.fm agH at hF
  obtain ⟨C, hC⟩ : ∃ C, Hj.chan h = C := ⟨_, rfl⟩
  rw [hC] at hF hone
  have HF := Lib.hid hF
  have hfd := field0_run C h.m
  obtain ⟨i0, hi, hz0, hz1, hz2⟩ : ∃ i, Tryz.prog.info? 3 = some i ∧ i.zero = some (.int .i64 0) ∧ i.size = 1 ∧ i.bytes = 8 := (by have h := Tryz.info_in8; cases hh : Tryz.prog.info? 3 with | none => rw [hh] at h; cases h | some i => rw [hh] at h; simp at h; exact ⟨i, rfl, h.1, h.2.1, h.2.2⟩)
  have hte : 3 ≠ 26 := by decide
  have HN : Hid (rwN h b x = x) := Lib.hid (by unfold rwN; rw [if_neg h255])
  rw [HN.out]
  obtain ⟨k, hk⟩ : ∃ k, one.length = k := ⟨_, rfl⟩
  have HK := Lib.hid hk
  have hk3 : k ≤ 3 := by omega
  have hblt : b < w.heap.size := T.c.lt
  have hbne : ¬ b = w.heap.size := Nat.ne_of_lt hblt
  have HONE := Lib.hid hone
  have HM := Lib.hid hm
  have hc3 := T.c.c3
  have hc4 := T.c.c4
  have hc5 := T.c.c5
  have HT := Lib.hid T
  have HS : Hid (World.ownsRow w (b + 1) 3 1 sv k (ints one)) := by show World.ownsRow _ _ _ _ _ _ _; have := HT.out.s; rw [HK.out] at this; exact this
  have e2 : wrap64 (n + c) = n + c := by rw [IntWalk.wrap64_in] <;> omega
  have hle : ¬ h.m < n + c := by omega
  clear hF hone hC hk T ho4 hm n0 n1 hb
  go_enter Tryz.func180, Tryz.ntmps180
  go_wp2_with (at_builtin; refine Rw.wpList_app1 rfl _ _ 22 rfl (b + 1) 3 i0 (.int .i64 0) 8 Tryz.underlying22 hi hz0 rfl hz1 hz2 sv k (ints one) rfl (HS.out.alloc _) w.heap.size (.int .i64 (n + c)) rfl rfl (by rw [World.cell?_alloc_at _ _ _ _ rfl]; rfl) (by unfold maxLen; omega) (by omega) (by simp; omega) ?_; intro v5 w5 hown hgrow hat; obtain ⟨g, cc, rfl⟩ := Rw.own_pos hown; obtain ⟨q1, q2⟩ := HT.out.pushS hte _ (n + c) (by have h := hown; rw [HK.out]; exact h) hgrow (by rcases hat with e | e; exact .inl e.symm; exact .inr (by injection e)); have hf5 := q1.fr 5; have HT1 : Hid (RwT w b h sv rv n (.slice (some ⟨g, 0, none⟩) (k + 1) cc) rv (one ++ [n + c]) row rows t x (w5.setCell ⟨b, 5, none⟩ (.slice (some ⟨g, 0, none⟩) (k + 1) cc))) := (by have h := q2; rw [HK.out] at h; exact h); have hd5 := q1.c5; clear q1 q2 hown hgrow hat)
  generalize hW : w5.setCell ⟨b, 5, none⟩ (.slice (some ⟨g, 0, none⟩) (k + 1) cc) = w2
  have HT2 : Hid (RwT w b h sv rv n (.slice (some ⟨g, 0, none⟩) (k + 1) cc) rv (one ++ [n + c]) row rows t x w2) := by show RwT _ _ _ _ _ _ _ _ _ _ _ _ _ _; rw [← hW]; exact HT1.out
  clear HT1 hd5 hf5 hW HS HT hc3 hc4 hc5
  have T2 := HT2.out
  have e0 := T2.c.c0
  have e1 := T2.c.c1
  have e2 := T2.c.c2
  have e3 := T2.c.c3
  have e5 := T2.c.c5
  clear T2
  have hBr : Below w2.heap.size w2 w2 := .refl _ _
  go_cut [58] from 47 to 58 (fun s58 wx => s58 = .bool ((k : Int) + 1 == C) ∧ Below w2.heap.size w2 wx)
  case first =>
    go_region_held3 (fun w' => w'.cell? ⟨b, 0, none⟩ = some (.int .i64 h.kd) ∧ w'.cell? ⟨b, 1, none⟩ = some (.int .i64 h.w) ∧ w'.cell? ⟨b, 2, none⟩ = some (.int .i64 h.h) ∧ w'.cell? ⟨b, 3, none⟩ = some (.int .i64 h.m) ∧ w'.cell? ⟨b, 5, none⟩ = some (.slice (some ⟨g, 0, none⟩) (k + 1) cc))
      (first | exact ⟨e0, e1, e2, e3, e5⟩ | exact ⟨cell_later hBr e0, cell_later hBr e1, cell_later hBr e2, cell_later hBr e3, cell_later hBr e5⟩)
      (first | (go_at_call 59; refine (HF.out _).mono ?_; rintro e w8 ⟨rfl, hb8⟩; replace hBr := bel_step (w := w2) (by first | exact hBr | exact hBr.drew) hb8))
    all_goals
      go_wp2_with fail
      go_meet
      case rel => exact ⟨by rfl, hBr⟩
  case rest =>
    obtain ⟨rfl, hBx⟩ := hcut
    have HT3 := Lib.hid (HT2.out.below hBx)
    clear hBr e0 e1 e2 e3 e5 hBx HT2
    have htp : ((k : Int) + 1 == C) = false := by have := HONE.out; have := HK.out; simp; omega
    go_wp2_with (go_at_call 199; refine (rwTake_no HT3.out hw).mono ?_; rintro e w9 ⟨a9, c9, rv9, rfl, T9, S9⟩)
    go_returns
    exact ⟨_, a9, c9, rv9, rfl, T9, S9⟩
set_option maxRecDepth 100000 in
set_option maxHeartbeats 4000000 in
theorem rwLow_more2 {w : World} {b : Nat} {h : Hd.H} (hm : Hd.May h) {n : Int} {sv rv : Value} {one row : List Int} {rows t : Int} {x : Value} (T : RwT w b h sv rv n sv rv one row rows t x w) (c : Int) (c0 : 0 ≤ c) (c1 : c ≤ 255) (n0 : 0 ≤ n) (n1 : n ≤ 65280) (hb : n + c ≤ h.m) (h255 : 255 < h.m) (ho4 : one.length ≤ 3) (hr4 : row.length ≤ 4096) (hone : (one.length : Int) + 1 < Hj.chan h) (hw : (row.length : Int) < h.w) :
    Calls Tryz.prog 180 #[.pointer (some ⟨b, 0, none⟩), .int .u8 c] w fun e w' => ∃ sv', RwTake w b h sv rv n sv' (one ++ [n + c]) (rwN h b x) t row rows [] e w' := by
  have hF := hformat_any h hm
  unfold Hj.fm agH at hF
  obtain ⟨C, hC⟩ : ∃ C, Hj.chan h = C := ⟨_, rfl⟩
  rw [hC] at hF hone
  have HF := Lib.hid hF
  have hfd := field0_run C h.m
  obtain ⟨i0, hi, hz0, hz1, hz2⟩ : ∃ i, Tryz.prog.info? 3 = some i ∧ i.zero = some (.int .i64 0) ∧ i.size = 1 ∧ i.bytes = 8 := (by have h := Tryz.info_in8; cases hh : Tryz.prog.info? 3 with | none => rw [hh] at h; cases h | some i => rw [hh] at h; simp at h; exact ⟨i, rfl, h.1, h.2.1, h.2.2⟩)
  have hte : 3 ≠ 26 := by decide
  have HN : Hid (rwN h b x = rwH b) := Lib.hid (by unfold rwN; rw [if_pos h255])
  rw [HN.out]
  obtain ⟨k, hk⟩ : ∃ k, one.length = k := ⟨_, rfl⟩
  have HK := Lib.hid hk
  have hk3 : k ≤ 3 := by omega
  have hblt : b < w.heap.size := T.c.lt
  have hbne : ¬ b = w.heap.size := Nat.ne_of_lt hblt
  have HONE := Lib.hid hone
  have HM := Lib.hid hm
  have hc3 := T.c.c3
  have hc4 := T.c.c4
  have hc5 := T.c.c5
  have f10 := T.c.fr 10
  have hc10 := T.c.c10
  have HT : Hid (RwT w b h sv rv n sv rv one row rows t (rwH b) (w.setCell ⟨b, 10, none⟩ (rwH b))) := Lib.hid (T.set10 _)
  have hd3 := HT.out.c.c3
  have hd5 := HT.out.c.c5
  have HS : Hid (World.ownsRow (w.setCell ⟨b, 10, none⟩ (rwH b)) (b + 1) 3 1 sv k (ints one)) := by show World.ownsRow _ _ _ _ _ _ _; have := HT.out.s; rw [HK.out] at this; exact this
  have e2 : wrap64 (n + c) = n + c := by rw [IntWalk.wrap64_in] <;> omega
  have hle : ¬ h.m < n + c := by omega
  clear hF hone hC hk T ho4 hm n0 n1 hb
  go_enter Tryz.func180, Tryz.ntmps180
  go_wp2_with (at_builtin; refine Rw.wpList_app1 rfl _ _ 22 rfl (b + 1) 3 i0 (.int .i64 0) 8 Tryz.underlying22 hi hz0 rfl hz1 hz2 sv k (ints one) rfl (HS.out.alloc _) w.heap.size (.int .i64 (n + c)) rfl rfl (by rw [World.cell?_alloc_at _ _ _ _ (by simp)]; rfl) (by unfold maxLen; omega) (by omega) (by simp; omega) ?_; intro v5 w5 hown hgrow hat; obtain ⟨g, cc, rfl⟩ := Rw.own_pos hown; obtain ⟨q1, q2⟩ := HT.out.pushS hte _ (n + c) (by have h := hown; rw [HK.out]; exact h) hgrow (by rcases hat with e | e; exact .inl e.symm; exact .inr (by injection e)); have hf5 := q1.fr 5; have HT1 : Hid (RwT w b h sv rv n (.slice (some ⟨g, 0, none⟩) (k + 1) cc) rv (one ++ [n + c]) row rows t (rwH b) (w5.setCell ⟨b, 5, none⟩ (.slice (some ⟨g, 0, none⟩) (k + 1) cc))) := (by have h := q2; rw [HK.out] at h; exact h); have hd5 := q1.c5; clear q1 q2 hown hgrow hat)
  generalize hW : w5.setCell ⟨b, 5, none⟩ (.slice (some ⟨g, 0, none⟩) (k + 1) cc) = w2
  have HT2 : Hid (RwT w b h sv rv n (.slice (some ⟨g, 0, none⟩) (k + 1) cc) rv (one ++ [n + c]) row rows t (rwH b) w2) := by show RwT _ _ _ _ _ _ _ _ _ _ _ _ _ _; rw [← hW]; exact HT1.out
  clear HT1 hd5 hf5 hW HS HT hc3 hc4 hc5
  have T2 := HT2.out
  have e0 := T2.c.c0
  have e1 := T2.c.c1
  have e2 := T2.c.c2
  have e3 := T2.c.c3
  have e5 := T2.c.c5
  clear T2
  have hBr : Below w2.heap.size w2 w2 := .refl _ _
  go_cut [58] from 47 to 58 (fun s58 wx => s58 = .bool ((k : Int) + 1 == C) ∧ Below w2.heap.size w2 wx)
  case first =>
    go_region_held3 (fun w' => w'.cell? ⟨b, 0, none⟩ = some (.int .i64 h.kd) ∧ w'.cell? ⟨b, 1, none⟩ = some (.int .i64 h.w) ∧ w'.cell? ⟨b, 2, none⟩ = some (.int .i64 h.h) ∧ w'.cell? ⟨b, 3, none⟩ = some (.int .i64 h.m) ∧ w'.cell? ⟨b, 5, none⟩ = some (.slice (some ⟨g, 0, none⟩) (k + 1) cc))
      (first | exact ⟨e0, e1, e2, e3, e5⟩ | exact ⟨cell_later hBr e0, cell_later hBr e1, cell_later hBr e2, cell_later hBr e3, cell_later hBr e5⟩)
      (first | (go_at_call 59; refine (HF.out _).mono ?_; rintro e w8 ⟨rfl, hb8⟩; replace hBr := bel_step (w := w2) (by first | exact hBr | exact hBr.drew) hb8))
    all_goals
      go_wp2_with fail
      go_meet
      case rel => exact ⟨by rfl, hBr⟩
  case rest =>
    obtain ⟨rfl, hBx⟩ := hcut
    have HT3 := Lib.hid (HT2.out.below hBx)
    clear hBr e0 e1 e2 e3 e5 hBx HT2
    have htp : ((k : Int) + 1 == C) = false := by have := HONE.out; have := HK.out; simp; omega
    go_wp2_with (go_at_call 199; refine (rwTake_no HT3.out hw).mono ?_; rintro e w9 ⟨a9, c9, rv9, rfl, T9, S9⟩)
    go_returns
    exact ⟨_, a9, c9, rv9, rfl, T9, S9⟩
set_option maxRecDepth 100000 in
set_option maxHeartbeats 4000000 in
theorem rwLow_pix1 {w : World} {b : Nat} {h : Hd.H} (hm : Hd.May h) {n : Int} {sv rv : Value} {one row : List Int} {rows t : Int} {x : Value} (T : RwT w b h sv rv n sv rv one row rows t x w) (c : Int) (c0 : 0 ≤ c) (c1 : c ≤ 255) (n0 : 0 ≤ n) (n1 : n ≤ 65280) (hb : n + c ≤ h.m) (h255 : ¬ 255 < h.m) (ho4 : one.length ≤ 3) (hr4 : row.length ≤ 4096) (hone : (one.length : Int) + 1 = Hj.chan h) (row1 : List Int) (rows1 : Int) (out : List Int) (htk : ∀ w1 sv1 rv1 y, RwT w b h sv rv n sv1 rv1 [] (row ++ [Rw.pk (one ++ [n + c])]) rows t y w1 → Calls Tryz.prog 199 #[.pointer (some ⟨b, 0, none⟩)] w1 (RwTake w b h sv rv n sv1 [] y t row1 rows1 out)) :
    Calls Tryz.prog 180 #[.pointer (some ⟨b, 0, none⟩), .int .u8 c] w fun e w' => ∃ sv', RwTake w b h sv rv n sv' [] (rwN h b x) t row1 rows1 out e w' := by
  have hF := hformat_any h hm
  unfold Hj.fm agH at hF
  obtain ⟨C, hC⟩ : ∃ C, Hj.chan h = C := ⟨_, rfl⟩
  rw [hC] at hF hone
  have HF := Lib.hid hF
  have hfd := field0_run C h.m
  obtain ⟨i0, hi, hz0, hz1, hz2⟩ : ∃ i, Tryz.prog.info? 3 = some i ∧ i.zero = some (.int .i64 0) ∧ i.size = 1 ∧ i.bytes = 8 := (by have h := Tryz.info_in8; cases hh : Tryz.prog.info? 3 with | none => rw [hh] at h; cases h | some i => rw [hh] at h; simp at h; exact ⟨i, rfl, h.1, h.2.1, h.2.2⟩)
  have hte : 3 ≠ 26 := by decide
  have HN : Hid (rwN h b x = x) := Lib.hid (by unfold rwN; rw [if_neg h255])
  rw [HN.out]
  obtain ⟨k, hk⟩ : ∃ k, one.length = k := ⟨_, rfl⟩
  have HK := Lib.hid hk
  have hk3 : k ≤ 3 := by omega
  have hblt : b < w.heap.size := T.c.lt
  have hbne : ¬ b = w.heap.size := Nat.ne_of_lt hblt
  have HONE := Lib.hid hone
  have HM := Lib.hid hm
  have hc3 := T.c.c3
  have hc4 := T.c.c4
  have hc5 := T.c.c5
  have HT := Lib.hid T
  have HS : Hid (World.ownsRow w (b + 1) 3 1 sv k (ints one)) := by show World.ownsRow _ _ _ _ _ _ _; have := HT.out.s; rw [HK.out] at this; exact this
  have e2 : wrap64 (n + c) = n + c := by rw [IntWalk.wrap64_in] <;> omega
  have hle : ¬ h.m < n + c := by omega
  clear hF hone hC hk T ho4 hm n0 n1 hb
  go_enter Tryz.func180, Tryz.ntmps180
  go_wp2_with (at_builtin; refine Rw.wpList_app1 rfl _ _ 22 rfl (b + 1) 3 i0 (.int .i64 0) 8 Tryz.underlying22 hi hz0 rfl hz1 hz2 sv k (ints one) rfl (HS.out.alloc _) w.heap.size (.int .i64 (n + c)) rfl rfl (by rw [World.cell?_alloc_at _ _ _ _ rfl]; rfl) (by unfold maxLen; omega) (by omega) (by simp; omega) ?_; intro v5 w5 hown hgrow hat; obtain ⟨g, cc, rfl⟩ := Rw.own_pos hown; obtain ⟨q1, q2⟩ := HT.out.pushS hte _ (n + c) (by have h := hown; rw [HK.out]; exact h) hgrow (by rcases hat with e | e; exact .inl e.symm; exact .inr (by injection e)); have hf5 := q1.fr 5; have HT1 : Hid (RwT w b h sv rv n (.slice (some ⟨g, 0, none⟩) (k + 1) cc) rv (one ++ [n + c]) row rows t x (w5.setCell ⟨b, 5, none⟩ (.slice (some ⟨g, 0, none⟩) (k + 1) cc))) := (by have h := q2; rw [HK.out] at h; exact h); have hd5 := q1.c5; clear q1 q2 hown hgrow hat)
  generalize hW : w5.setCell ⟨b, 5, none⟩ (.slice (some ⟨g, 0, none⟩) (k + 1) cc) = w2
  have HT2 : Hid (RwT w b h sv rv n (.slice (some ⟨g, 0, none⟩) (k + 1) cc) rv (one ++ [n + c]) row rows t x w2) := by show RwT _ _ _ _ _ _ _ _ _ _ _ _ _ _; rw [← hW]; exact HT1.out
  clear HT1 hd5 hf5 hW HS HT hc3 hc4 hc5
  have T2 := HT2.out
  have e0 := T2.c.c0
  have e1 := T2.c.c1
  have e2 := T2.c.c2
  have e3 := T2.c.c3
  have e5 := T2.c.c5
  clear T2
  have hBr : Below w2.heap.size w2 w2 := .refl _ _
  go_cut [58] from 47 to 58 (fun s58 wx => s58 = .bool ((k : Int) + 1 == C) ∧ Below w2.heap.size w2 wx)
  case first =>
    go_region_held3 (fun w' => w'.cell? ⟨b, 0, none⟩ = some (.int .i64 h.kd) ∧ w'.cell? ⟨b, 1, none⟩ = some (.int .i64 h.w) ∧ w'.cell? ⟨b, 2, none⟩ = some (.int .i64 h.h) ∧ w'.cell? ⟨b, 3, none⟩ = some (.int .i64 h.m) ∧ w'.cell? ⟨b, 5, none⟩ = some (.slice (some ⟨g, 0, none⟩) (k + 1) cc))
      (first | exact ⟨e0, e1, e2, e3, e5⟩ | exact ⟨cell_later hBr e0, cell_later hBr e1, cell_later hBr e2, cell_later hBr e3, cell_later hBr e5⟩)
      (first | (go_at_call 59; refine (HF.out _).mono ?_; rintro e w8 ⟨rfl, hb8⟩; replace hBr := bel_step (w := w2) (by first | exact hBr | exact hBr.drew) hb8))
    all_goals
      go_wp2_with fail
      go_meet
      case rel => exact ⟨by rfl, hBr⟩
  case rest =>
    obtain ⟨rfl, hBx⟩ := hcut
    have HT3 := Lib.hid (HT2.out.below hBx)
    clear hBr e0 e1 e2 e3 e5 hBx HT2
    have htp : ((k : Int) + 1 == C) = true := by have := HONE.out; have := HK.out; simp; omega
    have HTK := Lib.hid htk
    have HSL : Hid (Pq.Sl wc (some ⟨g, 0, none⟩) (k + 1) (one ++ [n + c])) := by
      have hk := HK.out
      have hs := HT3.out.s
      rw [List.length_append, List.length_singleton, hk] at hs
      obtain ⟨a', c', hv, hs'⟩ := sl_of_row (z := 0) rfl hs (by rw [List.length_append, List.length_singleton, hk])
      cases hv; exact hs'
    have i5 := HT3.out.c.c5
    clear htk
    go_upto_region 10 with (go_at_call 198; refine (rwAdd_any HT3.out hr4 _ _ _ _ (by omega) HSL.out).mono ?_; rintro e w9 ⟨rfl, rv9, T9⟩)
    have HT9 := Lib.hid T9
    have j5 := T9.c.c5
    have f5 := T9.c.fr 5
    clear T9 HT3 HSL i5
    go_wp2_with (go_at_call 199; refine (HTK.out _ _ _ _ (HT9.out.clear (by rw [List.length_append, List.length_singleton, HK.out]))).mono ?_; rintro e w10 ⟨a10, c10, rv10, rfl, T10, S10⟩)
    go_returns
    exact ⟨_, a10, c10, rv10, rfl, T10, S10⟩
set_option maxRecDepth 100000 in
set_option maxHeartbeats 4000000 in
theorem rwLow_pix2 {w : World} {b : Nat} {h : Hd.H} (hm : Hd.May h) {n : Int} {sv rv : Value} {one row : List Int} {rows t : Int} {x : Value} (T : RwT w b h sv rv n sv rv one row rows t x w) (c : Int) (c0 : 0 ≤ c) (c1 : c ≤ 255) (n0 : 0 ≤ n) (n1 : n ≤ 65280) (hb : n + c ≤ h.m) (h255 : 255 < h.m) (ho4 : one.length ≤ 3) (hr4 : row.length ≤ 4096) (hone : (one.length : Int) + 1 = Hj.chan h) (row1 : List Int) (rows1 : Int) (out : List Int) (htk : ∀ w1 sv1 rv1 y, RwT w b h sv rv n sv1 rv1 [] (row ++ [Rw.pk (one ++ [n + c])]) rows t y w1 → Calls Tryz.prog 199 #[.pointer (some ⟨b, 0, none⟩)] w1 (RwTake w b h sv rv n sv1 [] y t row1 rows1 out)) :
    Calls Tryz.prog 180 #[.pointer (some ⟨b, 0, none⟩), .int .u8 c] w fun e w' => ∃ sv', RwTake w b h sv rv n sv' [] (rwN h b x) t row1 rows1 out e w' := by
  have hF := hformat_any h hm
  unfold Hj.fm agH at hF
  obtain ⟨C, hC⟩ : ∃ C, Hj.chan h = C := ⟨_, rfl⟩
  rw [hC] at hF hone
  have HF := Lib.hid hF
  have hfd := field0_run C h.m
  obtain ⟨i0, hi, hz0, hz1, hz2⟩ : ∃ i, Tryz.prog.info? 3 = some i ∧ i.zero = some (.int .i64 0) ∧ i.size = 1 ∧ i.bytes = 8 := (by have h := Tryz.info_in8; cases hh : Tryz.prog.info? 3 with | none => rw [hh] at h; cases h | some i => rw [hh] at h; simp at h; exact ⟨i, rfl, h.1, h.2.1, h.2.2⟩)
  have hte : 3 ≠ 26 := by decide
  have HN : Hid (rwN h b x = rwH b) := Lib.hid (by unfold rwN; rw [if_pos h255])
  rw [HN.out]
  obtain ⟨k, hk⟩ : ∃ k, one.length = k := ⟨_, rfl⟩
  have HK := Lib.hid hk
  have hk3 : k ≤ 3 := by omega
  have hblt : b < w.heap.size := T.c.lt
  have hbne : ¬ b = w.heap.size := Nat.ne_of_lt hblt
  have HONE := Lib.hid hone
  have HM := Lib.hid hm
  have hc3 := T.c.c3
  have hc4 := T.c.c4
  have hc5 := T.c.c5
  have f10 := T.c.fr 10
  have hc10 := T.c.c10
  have HT : Hid (RwT w b h sv rv n sv rv one row rows t (rwH b) (w.setCell ⟨b, 10, none⟩ (rwH b))) := Lib.hid (T.set10 _)
  have hd3 := HT.out.c.c3
  have hd5 := HT.out.c.c5
  have HS : Hid (World.ownsRow (w.setCell ⟨b, 10, none⟩ (rwH b)) (b + 1) 3 1 sv k (ints one)) := by show World.ownsRow _ _ _ _ _ _ _; have := HT.out.s; rw [HK.out] at this; exact this
  have e2 : wrap64 (n + c) = n + c := by rw [IntWalk.wrap64_in] <;> omega
  have hle : ¬ h.m < n + c := by omega
  clear hF hone hC hk T ho4 hm n0 n1 hb
  go_enter Tryz.func180, Tryz.ntmps180
  go_wp2_with (at_builtin; refine Rw.wpList_app1 rfl _ _ 22 rfl (b + 1) 3 i0 (.int .i64 0) 8 Tryz.underlying22 hi hz0 rfl hz1 hz2 sv k (ints one) rfl (HS.out.alloc _) w.heap.size (.int .i64 (n + c)) rfl rfl (by rw [World.cell?_alloc_at _ _ _ _ (by simp)]; rfl) (by unfold maxLen; omega) (by omega) (by simp; omega) ?_; intro v5 w5 hown hgrow hat; obtain ⟨g, cc, rfl⟩ := Rw.own_pos hown; obtain ⟨q1, q2⟩ := HT.out.pushS hte _ (n + c) (by have h := hown; rw [HK.out]; exact h) hgrow (by rcases hat with e | e; exact .inl e.symm; exact .inr (by injection e)); have hf5 := q1.fr 5; have HT1 : Hid (RwT w b h sv rv n (.slice (some ⟨g, 0, none⟩) (k + 1) cc) rv (one ++ [n + c]) row rows t (rwH b) (w5.setCell ⟨b, 5, none⟩ (.slice (some ⟨g, 0, none⟩) (k + 1) cc))) := (by have h := q2; rw [HK.out] at h; exact h); have hd5 := q1.c5; clear q1 q2 hown hgrow hat)
  generalize hW : w5.setCell ⟨b, 5, none⟩ (.slice (some ⟨g, 0, none⟩) (k + 1) cc) = w2
  have HT2 : Hid (RwT w b h sv rv n (.slice (some ⟨g, 0, none⟩) (k + 1) cc) rv (one ++ [n + c]) row rows t (rwH b) w2) := by show RwT _ _ _ _ _ _ _ _ _ _ _ _ _ _; rw [← hW]; exact HT1.out
  clear HT1 hd5 hf5 hW HS HT hc3 hc4 hc5
  have T2 := HT2.out
  have e0 := T2.c.c0
  have e1 := T2.c.c1
  have e2 := T2.c.c2
  have e3 := T2.c.c3
  have e5 := T2.c.c5
  clear T2
  have hBr : Below w2.heap.size w2 w2 := .refl _ _
  go_cut [58] from 47 to 58 (fun s58 wx => s58 = .bool ((k : Int) + 1 == C) ∧ Below w2.heap.size w2 wx)
  case first =>
    go_region_held3 (fun w' => w'.cell? ⟨b, 0, none⟩ = some (.int .i64 h.kd) ∧ w'.cell? ⟨b, 1, none⟩ = some (.int .i64 h.w) ∧ w'.cell? ⟨b, 2, none⟩ = some (.int .i64 h.h) ∧ w'.cell? ⟨b, 3, none⟩ = some (.int .i64 h.m) ∧ w'.cell? ⟨b, 5, none⟩ = some (.slice (some ⟨g, 0, none⟩) (k + 1) cc))
      (first | exact ⟨e0, e1, e2, e3, e5⟩ | exact ⟨cell_later hBr e0, cell_later hBr e1, cell_later hBr e2, cell_later hBr e3, cell_later hBr e5⟩)
      (first | (go_at_call 59; refine (HF.out _).mono ?_; rintro e w8 ⟨rfl, hb8⟩; replace hBr := bel_step (w := w2) (by first | exact hBr | exact hBr.drew) hb8))
    all_goals
      go_wp2_with fail
      go_meet
      case rel => exact ⟨by rfl, hBr⟩
  case rest =>
    obtain ⟨rfl, hBx⟩ := hcut
    have HT3 := Lib.hid (HT2.out.below hBx)
    clear hBr e0 e1 e2 e3 e5 hBx HT2
    have htp : ((k : Int) + 1 == C) = true := by have := HONE.out; have := HK.out; simp; omega
    have HTK := Lib.hid htk
    have HSL : Hid (Pq.Sl wc (some ⟨g, 0, none⟩) (k + 1) (one ++ [n + c])) := by
      have hk := HK.out
      have hs := HT3.out.s
      rw [List.length_append, List.length_singleton, hk] at hs
      obtain ⟨a', c', hv, hs'⟩ := sl_of_row (z := 0) rfl hs (by rw [List.length_append, List.length_singleton, hk])
      cases hv; exact hs'
    have i5 := HT3.out.c.c5
    clear htk
    go_upto_region 10 with (go_at_call 198; refine (rwAdd_any HT3.out hr4 _ _ _ _ (by omega) HSL.out).mono ?_; rintro e w9 ⟨rfl, rv9, T9⟩)
    have HT9 := Lib.hid T9
    have j5 := T9.c.c5
    have f5 := T9.c.fr 5
    clear T9 HT3 HSL i5
    go_wp2_with (go_at_call 199; refine (HTK.out _ _ _ _ (HT9.out.clear (by rw [List.length_append, List.length_singleton, HK.out]))).mono ?_; rintro e w10 ⟨a10, c10, rv10, rfl, T10, S10⟩)
    go_returns
    exact ⟨_, a10, c10, rv10, rfl, T10, S10⟩
end Go.Proofs.YtmnhiagppicegaaGreat

/- All pixels of a raster of digits, as a plain function; a reader beside a list that grows. No condition. -/
namespace Go.Proofs.YtmnhiagppicegaaGreat
open Go.RowKit
set_option linter.unusedVariables false
namespace Pl
/-- told the rest of a text, i bytes in -/
def readF : S → Nat → List Int → List Int → List Int × Int × Int
  | s, i, acc, [] => if (fin s).1.last = 2 then ([], 0, (fin s).1.e) else (acc ++ (fin s).2, (i : Int), 0)
  | s, i, acc, c :: cs =>
    if (put s c).1.last = 1 then (acc ++ (put s c).2, (i : Int) + 1, 0)
    else if (put s c).1.last = 2 then ([], 0, (put s c).1.e)
    else readF (put s c).1 (i + 1) (acc ++ (put s c).2) cs
def readV (h : Hd.H) (x : List Int) : List Int × Int × Int := if May h then readF (new h) 0 [] x else ([], 0, 1)
theorem readF_over {s : S} {q : S × List Int} {i : Nat} {acc : List Int} {c : Int} {cs : List Int} (hq : put s c = q) (h : q.1.last = 1) : readF s i acc (c :: cs) = (acc ++ q.2, (i : Int) + 1, 0) := by rw [readF, hq, if_pos h]
theorem readF_wrong {s : S} {q : S × List Int} {i : Nat} {acc : List Int} {c : Int} {cs : List Int} (hq : put s c = q) (h : q.1.last = 2) : readF s i acc (c :: cs) = ([], 0, q.1.e) := by rw [readF, hq, if_neg (by omega), if_pos h]
theorem readF_more {s : S} {q : S × List Int} {i : Nat} {acc : List Int} {c : Int} {cs : List Int} (hq : put s c = q) (h : q.1.last = 0) : readF s i acc (c :: cs) = readF q.1 (i + 1) (acc ++ q.2) cs := by rw [readF, hq, if_neg (by omega), if_neg (by omega)]
theorem readF_nil {s : S} {q : S × List Int} {i : Nat} {acc : List Int} (hq : fin s = q) : readF s i acc [] = if q.1.last = 2 then ([], 0, q.1.e) else (acc ++ q.2, (i : Int), 0) := by rw [readF, hq]
theorem sample_grow (s : S) (n : Int) : (sample s n).2.length + (sample s n).1.row.length ≤ s.row.length + 1 := by
  unfold sample
  split
  · simp [more]
  · split <;> simp [pixel, line]
theorem put_grow (s : S) (c : Int) : (put s c).2.length + (put s c).1.row.length ≤ s.row.length + 1 := by
  unfold put
  split
  · simp
  split
  · split
    · exact sample_grow s _
    · simp
  split
  · split
    · exact sample_grow s _
    · simp [wrong]
  split
  · simp [digit]
  · simp [wrong]
theorem fin_grow (s : S) : (fin s).2.length ≤ s.row.length + 1 := by
  have := put_grow s 32
  unfold fin
  split
  · show (put s 32).2.length ≤ _; omega
  · omega
theorem fin_last {s : S} (hG : Good s) : (fin s).1.last = 1 ∨ (fin s).1.last = 2 := by
  have hg := (good_put hG 32).last
  unfold fin
  split
  · exact .inr rfl
  · omega
end Pl
/-- a list's memory is not the reader's -/
def Ap (v : Value) (b : Nat) (sv rv : Value) : Prop := ∀ k, v.ownBlock = some k → ¬ PlZ b sv rv k
theorem ap_nil (b : Nat) (sv rv : Value) : Ap (.slice none 0 0) b sv rv := fun k hk => by cases hk
theorem Ap.ne {v : Value} {b : Nat} {sv rv : Value} (h : Ap v b sv rv) : some b ≠ v.ownBlock := fun e => h b e.symm (.inl rfl)
theorem Ap.s {v : Value} {b : Nat} {sv rv : Value} (h : Ap v b sv rv) : sv.ownBlock = none ∨ sv.ownBlock ≠ v.ownBlock := by
  cases hv : sv.ownBlock with
  | none => exact .inl rfl
  | some k => right; intro e; exact h k e.symm (.inr (.inl hv))
theorem Ap.r {v : Value} {b : Nat} {sv rv : Value} (h : Ap v b sv rv) : rv.ownBlock = none ∨ rv.ownBlock ≠ v.ownBlock := by
  cases hv : rv.ownBlock with
  | none => exact .inl rfl
  | some k => right; intro e; exact h k e.symm (.inr (.inr hv))
theorem row_sep {w w2 : World} {b : Nat} {sv rv v : Value} {base k : Nat} {e : TypeId} {xs : List Value} (hr : w.ownsRow base e 1 v k xs) (hs : Sep (PlZ b sv rv) w w2) (ha : Ap v b sv rv) : w2.ownsRow base e 1 v k xs := by
  refine ⟨hr.1, ?_⟩
  rcases hr.2 with h | ⟨g, cap, cur, rfl, hb, hg, r⟩
  · exact .inl h
  · exact .inr ⟨g, cap, cur, rfl, hb, (hs.block g (Array.getElem?_eq_some_iff.1 hg).1 (ha g rfl)).trans hg, r⟩
theorem ap_put {w : World} {b base k : Nat} {sv rv sv' rv' v : Value} {e : TypeId} {xs : List Value} (hr : w.ownsRow base e 1 v k xs) (ha : Ap v b sv rv) (hs : PlNew w sv sv') (hn : PlNew w rv rv') : Ap v b sv' rv' := by
  intro j hj hz
  have hlt := (hr.lt j hj).2
  have hnz := ha j hj
  rcases hz with rfl | hz | hz
  · exact hnz (.inl rfl)
  · rcases hs with h | h
    · exact hnz (.inr (.inl (by rw [← h]; exact hz)))
    · have := h j hz; omega
  · rcases hn with h | h
    · exact hnz (.inr (.inr (by rw [← h]; exact hz)))
    · have := h j hz; omega
theorem PlX.lt {w : World} {b : Nat} {sv rv : Value} {s : Pl.S} (X : PlX w b sv rv s) : b < w.heap.size := by obtain ⟨n, x, hC, _⟩ := X.ex; exact hC.lt
theorem PlX.kept {w w' : World} {b : Nat} {sv rv v : Value} {s : Pl.S} (X : PlX w b sv rv s) (ha : Ap v b sv rv) (hg : w.grownBy w' v.ownBlock) : PlX w' b sv rv s := by
  obtain ⟨n, x, hC, hx⟩ := X.ex
  refine ⟨X.g, z_up X.z hg.size, n, x, hC.kept hg ha.ne, fun h0 => ?_⟩
  obtain ⟨e1, e2, h1, h2⟩ := hx h0
  exact ⟨e1, e2, h1.kept hg ha.s, h2.kept hg ha.r⟩
theorem PlX.later {w w' : World} {b : Nat} {sv rv : Value} {s : Pl.S} (X : PlX w b sv rv s) (hb : Below w.heap.size w w') : PlX w' b sv rv s := by
  obtain ⟨n, x, hC, hx⟩ := X.ex
  refine ⟨X.g, z_up X.z hb.size, n, x, hC.later hb, fun h0 => ?_⟩
  obtain ⟨e1, e2, h1, h2⟩ := hx h0
  exact ⟨e1, e2, below_row h1 hb, below_row h2 hb⟩
theorem ap_app {w : World} {b : Nat} {sv rv v v' : Value} {s : Pl.S} (X : PlX w b sv rv s) (ha : Ap v b sv rv) (hat : v'.ownBlock = v.ownBlock ∨ v'.ownBlock = some w.heap.size) : Ap v' b sv rv := by
  intro k hk hz
  rcases hat with h | h
  · exact ha k (by rw [← h]; exact hk) hz
  · rw [h] at hk; cases hk
    have := (X.z _ hz).2; omega
theorem plError_x {w : World} {b : Nat} {sv rv : Value} {s : Pl.S} (X : PlX w b sv rv s) :
    Calls Tryz.prog 147 #[.pointer (some ⟨b, 0, none⟩)] w fun e w' => e = .returned (.int .i64 s.e) ∧ w = w' := by
  obtain ⟨n, x, hC, _⟩ := X.ex
  exact plError_any w b s.h n sv rv s.rows s.last s.e x hC
theorem slk_row {w : World} {base k : Nat} {v : Value} {l : List Int} (hr : w.ownsRow base 26 1 v k (pixs l)) (hk : l.length = k) :
    ∃ a c, v = .slice a k c ∧ SlK .u64 w a k l := by
  rcases hr.2 with ⟨rfl, rfl⟩ | ⟨g, cap, cur, rfl, hb, hg, hle, hm, hs, ht⟩
  · exact ⟨none, 0, rfl, hk, .inl rfl⟩
  · exact ⟨_, cap, rfl, slk_of_row (c := cap) hr hk⟩
/-- all pixels, told -/
def RdR (t : List Int × Int × Int) (w : World) (e : Ending) (w' : World) : Prop :=
  ∃ a c, e = .returned (.tuple #[.slice a t.1.length c, .int .i64 t.2.1, .int .i64 t.2.2]) ∧ SlK .u64 w' a t.1.length t.1 ∧ Below w.heap.size w w'
theorem rdr_nil {t : List Int × Int × Int} {e1 e2 : Int} (ht : t = ([], e1, e2)) {w w' : World} (hB : Below w.heap.size w w') : RdR t w (.returned (.tuple #[.slice none 0 0, .int .i64 e1, .int .i64 e2])) w' :=
  ⟨none, 0, by rw [ht]; rfl, by rw [ht]; exact slk_nil, hB⟩
theorem rdr_row {t : List Int × Int × Int} {l : List Int} {e1 e2 x : Int} (ht : t = (l, e1, e2)) (hx : x = e1) {w w' : World} {base k : Nat} {v : Value} (hr : w'.ownsRow base 26 1 v k (pixs l)) (hk : l.length = k) (hB : Below w.heap.size w w') : RdR t w (.returned (.tuple #[v, .int .i64 x, .int .i64 e2])) w' := by
  obtain ⟨a, c, rfl, hs⟩ := slk_row hr hk
  subst hk; subst hx
  exact ⟨a, c, by rw [ht], by rw [ht]; exact hs, hB⟩
end Go.Proofs.YtmnhiagppicegaaGreat

/- A reader of bytes is told eight bits, over any memory. Condition: its head may be, of the kind 4. -/
namespace Go.Proofs.YtmnhiagppicegaaGreat
open Go.RowKit
set_option linter.unusedVariables false

theorem Rw.min_w {k W : Int} (h : k < W) (k0 : 0 ≤ k) (hW : W ≤ 4096) : ∃ v : Nat, min 8 (W - k) = (v : Int) ∧ 1 ≤ v ∧ v ≤ 8 ∧ ((v : Int) ≤ W - k) ∧ (v = 8 ∨ (v : Int) = W - k) := ⟨(min 8 (W - k)).toNat, by omega, by omega, by omega, by omega, by omega⟩
theorem Rw.bits1 (c : Int) {v : Nat} (h1 : 1 ≤ v) (h2 : v ≤ 8) : Bt.unpackV [c] (v : Int) = (Bt.eight c).take v ∧ Bt.rowE 1 (v : Int) = 0 := by
  have e : Bt.rowE 1 (v : Int) = 0 := by
    have hb : Bt.bytesV (v : Int) = 1 := by unfold Bt.bytesV; rw [if_neg (by omega)]; omega
    unfold Bt.rowE; rw [hb]; decide
  refine ⟨?_, e⟩
  unfold Bt.unpackV
  rw [show [c].length = 1 from rfl, if_pos e]
  simp [Bt.bitsOf]
theorem Rw.one_slk (w : World) (q : IntKind) (x : Int) (t : TypeId) : SlK q (w.alloc (.cells #[.int q x] t)) (some ⟨w.heap.size, 0, none⟩) 1 [x] := by
  refine ⟨rfl, .inr ⟨w.heap.size, 0, rfl, fun i hi => ?_⟩⟩
  obtain rfl : i = 0 := by omega
  rw [World.cell?_alloc_at _ _ _ _ rfl]; rfl
theorem Rw.take_snoc (f : Int → Int) (row l : List Int) (i : Nat) (h : i < l.length) : row ++ (l.take i).map f ++ [f (l.getD i 0)] = row ++ (l.take (i + 1)).map f := by
  rw [List.append_assoc, List.take_succ_eq_append_getElem h, List.map_append, List.getD_eq_getElem?_getD, List.getElem?_eq_getElem h]; rfl
set_option maxRecDepth 100000 in
set_option maxHeartbeats 4000000 in
theorem rwEighth_any {w : World} {b : Nat} {h : Hd.H} {n : Int} {sv rv : Value} {one row : List Int} {rows t : Int} {x : Value} (T : RwT w b h sv rv n sv rv one row rows t x w) (hW : h.w ≤ 4096) (hr : (row.length : Int) < h.w) (c : Int) (c0 : 0 ≤ c) (c1 : c ≤ 255) (v : Nat) (hv : min 8 (h.w - row.length) = (v : Int)) (v1 : 1 ≤ v) (v8 : v ≤ 8)
    (row1 : List Int) (rows1 : Int) (out : List Int) (htk : ∀ w1 rv1, RwT w b h sv rv n sv rv1 one (row ++ ((Bt.eight c).take v).map (fun x => Rw.pk [x])) rows t x w1 → Calls Tryz.prog 199 #[.pointer (some ⟨b, 0, none⟩)] w1 (RwTake w b h sv rv n sv one x t row1 rows1 out)) :
    Calls Tryz.prog 178 #[.pointer (some ⟨b, 0, none⟩), .int .u8 c] w (RwTake w b h sv rv n sv one x t row1 rows1 out) := by
  have HT := Lib.hid T
  have HTK := Lib.hid htk
  have hc1 := T.c.c1
  obtain ⟨k, hk⟩ : ∃ k, row.length = k := ⟨_, rfl⟩
  obtain ⟨ra, rc, hrv, _⟩ := Rw.slk_row T.r rfl
  have hc6 : w.cell? ⟨b, 6, none⟩ = some (.slice ra k rc) := by rw [T.c.c6, hrv, hk]
  rw [hk] at hr hv
  have HK := Lib.hid hk
  have e1 : wrap64 (h.w - k) = h.w - k := by rw [IntWalk.wrap64_in] <;> omega
  clear T htk hk hrv
  go_enter Tryz.func178, Tryz.ntmps178
  obtain ⟨zs, hz⟩ : ∃ zs, (Bt.eight c).take v = zs := ⟨_, rfl⟩
  have hzl : zs.length = v := by rw [← hz, List.length_take, Bt.eight_len]; omega
  have HB1 := Lib.hid (Rw.bits1 c v1 v8)
  rw [hz] at HB1 HTK
  clear hz
  have HU : Hid (∀ W : World, Calls Tryz.prog 197 #[.slice (some ⟨W.heap.size, 0, none⟩) 1 1, .int .i64 (v : Int)] (W.alloc (.cells #[.int .u8 c] 5)) (fun e w' => ∃ ad cap, e = .returned (.tuple #[.slice ad v cap, .int .i64 0]) ∧ w'.ownsRow (W.alloc (.cells #[.int .u8 c] 5)).heap.size 3 1 (.slice ad v cap) v (ints zs) ∧ Below (W.alloc (.cells #[.int .u8 c] 5)).heap.size (W.alloc (.cells #[.int .u8 c] 5)) w')) := Lib.hid fun W => by
    have h := Bt.unpack_any (some ⟨W.heap.size, 0, none⟩) 1 1 [c] (v : Int) (W.alloc (.cells #[.int .u8 c] 5)) ⟨Rw.one_slk W .u8 c _, Nat.le_refl _, by omega, fun z hz => by rw [List.mem_singleton.1 hz]; exact ⟨c0, c1⟩⟩
    rw [HB1.out.1, HB1.out.2] at h
    unfold Bt.UnpR at h
    rw [hzl] at h
    exact h
  have HZL := Lib.hid hzl
  have HVV := Lib.hid hv
  have HVW := Lib.hid (show (v : Int) ≤ h.w - k by omega)
  clear c0 c1 hzl
  go_upto_region 1 with fail
  go_cut [5] from 10 to 21 (fun s5 wx => s5 = .int .i64 (v : Int) ∧ ∃ j, wx = w.drewN j)
  case first =>
    go_wp2_with (go_quiet (fail))
    all_goals
      go_meet
      case rel => refine ⟨?_, _, rfl⟩; first | (congr 1; done) | (congr 1; have := HVV.out; omega)
  case rest =>
    obtain ⟨rfl, j, hwj⟩ := hcut
    have HT1 : Hid (RwT w b h sv rv n sv rv one row rows t x wc) := by show RwT _ _ _ _ _ _ _ _ _ _ _ _ _ _; rw [hwj]; exact HT.out.drewN _
    have HW1 : Hid (Below w.heap.size w wc) := by show Below _ _ _; rw [hwj]; exact below_drewN (.refl _ _) _
    clear hwj hc1 hc6 HT HVV hv e1
    go_wp2_with (go_at_call 197; refine (HU.out _).mono ?_; rintro e w3 ⟨ad, cap, rfl, hown, hb3⟩; have HO3 := Lib.hid hown; have HB3 := Lib.hid hb3; clear hown hb3)
    have HB2 : Hid (Below wc.heap.size wc w3) := Lib.hid ((box1' wc _).trans (HB3.out.mono (by simp)))
    have HT3 : Hid (RwT w3 b h sv rv n sv rv one row rows t x w3) := Lib.hid (by have T3 := HT1.out.below HB2.out; exact .start T3.c T3.s T3.r)
    obtain ⟨ad', c', hv', hsl⟩ := sl_of_row (z := 0) rfl HO3.out HZL.out
    cases hv'
    rcases hsl.2 with h0 | ⟨g, o, rfl, hsc⟩
    · omega
    have HSC := Lib.hid hsc
    have HA : Hid (¬ PlZ b sv rv g) := by
      show ¬ _
      have hlt := (HO3.out.lt g rfl).1
      simp at hlt
      rintro (rfl | e | e)
      · have := HT1.out.c.lt; omega
      · have := (HT1.out.s.lt g e).2; omega
      · have := (HT1.out.r.lt g e).2; omega
    have HBASE : Hid (Sep (PlZ b sv rv) w w3) := Lib.hid (.bel (HW1.out.trans (HB2.out.mono HW1.out.size)))
    clear hsc hsl HO3 HB3 HU HT1 HB2
    go_loopw [31] (fun u31 wr => ∃ (i : Nat) (rv' : Value), i ≤ v ∧ u31 = .int .i64 i ∧ RwT w3 b h sv rv n sv rv' one (row ++ (zs.take i).map (fun x => Rw.pk [x])) rows t x wr) (fun u31 _ => v - (intOf u31).toNat)
    case atStart => exact ⟨0, rv, Nat.zero_le _, rfl, by simpa using HT3.out⟩
    case round =>
      obtain ⟨i, rv', hi, rfl, hT⟩ := hrel
      have HTi := Lib.hid hT
      by_cases hlt : i < v
      · have hcell := hT.f.cell (p := none) HA.out (HSC.out i hlt)
        have HLEN : Hid ((row ++ (zs.take i).map (fun x => Rw.pk [x])).length ≤ 4096) := Lib.hid (by have := HK.out; have := HZL.out; have := HVW.out; rw [List.length_append, List.length_map, List.length_take]; omega)
        have hii : (i : Int) + 1 ≤ 9223372036854775807 := by omega
        have e1 : wrap64 ((i : Int) + 1) = (i : Int) + 1 := by rw [IntWalk.wrap64_in] <;> omega
        clear hT
        go_wp2_with (go_at_call 198; refine (rwAdd_any (HTi.out.below (box1' _ _)) HLEN.out _ _ _ [zs.getD i 0] (by omega) (Rw.one_slk wr .i64 (zs.getD i 0) _)).mono ?_; rintro e w9 ⟨rfl, rv9, T9⟩; rw [Rw.take_snoc (fun x => Rw.pk [x]) row zs i (by rw [HZL.out]; exact hlt)] at T9; have HT9 := Lib.hid T9; clear T9)
        go_roundw
        case rel => exact ⟨i + 1, rv9, by omega, by go_num, HT9.out⟩
        case measure => simp [intOf]; omega
      · obtain rfl : i = v := by omega
        have HT9 : Hid (RwT w b h sv rv n sv rv' one (row ++ zs.map (fun x => Rw.pk [x])) rows t x wr) := Lib.hid (by have h9 := hT; rw [List.take_of_length_le (by rw [HZL.out]; omega)] at h9; exact h9.base HBASE.out)
        clear hT
        go_wp2_with (go_at_call 199; refine (HTK.out _ _ HT9.out).mono ?_; rintro e w10 ⟨a10, c10, rv10, rfl, T10, S10⟩)
        go_returns
        exact ⟨a10, c10, rv10, rfl, T10, S10⟩
end Go.Proofs.YtmnhiagppicegaaGreat

/- A reader of bytes, its row and its samples, told by a plain reader; a new one; over any memory. Condition: its head may be. -/
namespace Go.Proofs.YtmnhiagppicegaaGreat
open Go.RowKit
set_option linter.unusedVariables false

/-- what the next part is -/
def Rw.nx (h : Hd.H) (r : List Int) (b : Nat) : Value := if h.kd = 4 then rwE b else if 255 < h.m ∧ Rw.rest h r = [] then rwH b else rwL b
/-- what the high byte is worth -/
def Rw.Hi (h : Hd.H) (r : List Int) (n : Int) : Prop := (h.m ≤ 255 → n = 0) ∧ (∀ y, Rw.rest h r = [y] → n = y * 256) ∧ 0 ≤ n ∧ n ≤ 65280
/-- a reader in the block b is where s says -/
structure RwX (w : World) (b : Nat) (sv rv : Value) (s : Rw.S) : Prop where
  g : Rw.Good s
  z : ∀ k, PlZ b sv rv k → b ≤ k ∧ k < w.heap.size
  ex : ∃ n x, RwC w b s.h n sv rv s.rows s.left s.e x ∧ (s.e = 0 → x = Rw.nx s.h s.cur b ∧ Rw.Hi s.h s.cur n ∧ w.ownsRow (b + 1) 3 1 sv (Rw.oneV s.h s.cur).length (ints (Rw.oneV s.h s.cur)) ∧ w.ownsRow (b + 1) 26 1 rv (Rw.rowV s.h s.cur).length (pixs (Rw.rowV s.h s.cur)))
/-- a new reader -/
def RwNewR (h : Hd.H) (w : World) (e : Ending) (w' : World) : Prop :=
  ∃ b, e = .returned (.tuple #[.pointer (some ⟨b, 0, none⟩), .int .i64 0]) ∧ w.heap.size ≤ b ∧ RwX w' b (.slice none 0 0) (.slice none 0 0) (Rw.new h) ∧ Below w.heap.size w w'
theorem rw_new {w : World} {b : Nat} {h : Hd.H} (hm : Rw.May h) {x : Value} (hx : x = Rw.nx h [] b) (H : RwC w b h 0 (.slice none 0 0) (.slice none 0 0) 0 (Hj.size h) 0 x) : RwX w b (.slice none 0 0) (.slice none 0 0) (Rw.new h) :=
  ⟨Rw.good_new hm, (fun k hk => hk.elim (fun h => by subst h; exact ⟨Nat.le_refl _, H.lt⟩) fun h => h.elim (fun h => by cases h) fun h => by cases h), 0, x, H, fun _ => ⟨hx, ⟨fun _ => rfl, (fun y hy => by cases hy), by omega, by omega⟩, by show World.ownsRow _ _ _ _ _ (Rw.oneV h []).length (ints (Rw.oneV h [])); rw [Rw.oneV_nil]; exact World.ownsRow_nil _ _ _ _, by show World.ownsRow _ _ _ _ _ (Rw.rowV h []).length (pixs (Rw.rowV h [])); rw [Rw.rowV_nil]; exact World.ownsRow_nil _ _ _ _⟩⟩
set_option maxHeartbeats 1000000 in
theorem rwNew_no (h : Hd.H) (hf : Hj.Fit h) (hm : ¬ Rw.May h) (w : World) :
    Calls Tryz.prog 148 #[agH h] w fun e w' => e = .returned (.tuple #[.pointer none, .int .i64 1]) ∧ Below w.heap.size w w' := by
  have HM := Lib.hid (rwMay_any h hf)
  simp only [decide_eq_false hm] at HM
  unfold agH at HM ⊢
  clear hm
  go_enter Tryz.func148, Tryz.ntmps148
  go_wp2_with (go_at_call 136; refine (HM.out _).mono ?_; rintro e w9 ⟨rfl, hb9⟩; have hBz := Lib.hid (((Below.refl _ w).alloc (Nat.le_refl _) _).trans (hb9.mono (by simp))))
  go_ret2
  exact ⟨rfl, hBz.out⟩
set_option maxRecDepth 100000 in
set_option maxHeartbeats 4000000 in
theorem rwNew_yes (h : Hd.H) (hf : Hj.Fit h) (hm : Rw.May h) (w : World) :
    Calls Tryz.prog 148 #[agH h] w (RwNewR h w) := by
  have HM := Lib.hid (rwMay_any h hf)
  simp only [decide_eq_true hm] at HM
  have HS := Lib.hid (hsize_any h hm.1)
  have HM' := Lib.hid hm
  obtain ⟨sz, hsz⟩ : ∃ sz, Hj.size h = sz := ⟨_, rfl⟩
  rw [hsz] at HS
  have HZ := Lib.hid hsz
  unfold agH at HM HS ⊢
  clear hm hf hsz
  go_enter Tryz.func148, Tryz.ntmps148
  go_upto_region 3 with (go_at_call 136; refine (HM.out _).mono ?_; rintro e w9 ⟨rfl, hb9⟩; have hBz := Lib.hid (((Below.refl _ w).alloc (Nat.le_refl _) _).trans (hb9.mono (by simp))); have HN := Lib.hid ((Hb.new w 49 h).later hb9); clear hb9)
  obtain ⟨n0, n1, n2, n3⟩ := HN.out.cells
  have hBr : Below w9.heap.size w9 w9 := .refl _ _
  go_cut [4] from 8 to 12 (fun s4 wx => ∃ B x0, s4 = .pointer (some ⟨B, 0, none⟩) ∧ w9.heap.size ≤ B ∧ RwC wx B h 0 (.slice none 0 0) (.slice none 0 0) 0 sz 0 x0 ∧ Below w9.heap.size w9 wx)
  case first =>
    go_region_held3 (fun w' => w'.cell? ⟨w.heap.size, 0, none⟩ = some (.int .i64 h.kd) ∧ w'.cell? ⟨w.heap.size, 1, none⟩ = some (.int .i64 h.w) ∧ w'.cell? ⟨w.heap.size, 2, none⟩ = some (.int .i64 h.h) ∧ w'.cell? ⟨w.heap.size, 3, none⟩ = some (.int .i64 h.m))
      (first | exact ⟨n0, n1, n2, n3⟩ | exact ⟨cell_later hBr n0, cell_later hBr n1, cell_later hBr n2, cell_later hBr n3⟩ | go_keep)
      (first | (go_at_call 105; refine (HS.out _).mono ?_; rintro e w8 ⟨rfl, hb8⟩; replace hBr := bel_step (w := w9) (by first | exact hBr | exact hBr.drew) hb8))
    all_goals
      go_wp2_with fail
      go_meet
      case rel => exact ⟨_, _, rfl, hBr.size, raw_cells _ h _ _ _ _ _ _ _, hBr.alloc hBr.size _⟩
  case rest =>
    obtain ⟨B, x0, rfl, hB9, hC, hBx⟩ := hcut
    obtain ⟨m0, m1, m2, m3⟩ := (HN.out.later hBx).cells
    have HC := Lib.hid hC
    have k10 := hC.c10
    have f10 := hC.fr 10
    have HB0 : Hid (w.heap.size ≤ B) := Lib.hid (Nat.le_trans hBz.out.size hB9)
    have HBC := Lib.hid (hBz.out.trans (hBx.mono hBz.out.size))
    have hmm := HM'.out.m
    have hne : ¬ w.heap.size = B := by have := HN.out.lt; omega
    clear hC hBx n0 n1 n2 n3 hBr hB9
    by_cases h4 : h.kd = 4
    · have hk : (h.kd == 4) = true := by simpa using h4
      have HX : Hid (rwE B = Rw.nx h [] B) := Lib.hid (by unfold Rw.nx; rw [if_pos h4])
      clear h4 hmm
      go_wp2
      go_returns
      exact ⟨B, rfl, HB0.out, rw_new HM'.out HX.out (by rw [HZ.out]; exact HC.out.put10 _), HBC.out.setCell HB0.out _⟩
    · have hk : (h.kd == 4) = false := by simpa using h4
      by_cases h255 : 255 < h.m
      · have HX : Hid (rwH B = Rw.nx h [] B) := Lib.hid (by unfold Rw.nx; rw [if_neg h4, if_pos ⟨h255, rfl⟩])
        clear h4 hmm
        go_wp2
        go_returns
        exact ⟨B, rfl, HB0.out, rw_new HM'.out HX.out (by rw [HZ.out]; exact HC.out.put10 _), HBC.out.setCell HB0.out _⟩
      · have HX : Hid (rwL B = Rw.nx h [] B) := Lib.hid (by unfold Rw.nx; rw [if_neg h4, if_neg (fun h => h255 h.1)])
        clear h4 hmm
        go_wp2
        go_returns
        exact ⟨B, rfl, HB0.out, rw_new HM'.out HX.out (by rw [HZ.out]; exact HC.out.put10 _), HBC.out.setCell HB0.out _⟩
end Go.Proofs.YtmnhiagppicegaaGreat

/- A reader of bytes is told a byte: what it comes to, over any memory. Condition: its head may be. -/
namespace Go.Proofs.YtmnhiagppicegaaGreat
open Go.RowKit
set_option linter.unusedVariables false

def Rw.stT (f t : Int) : Int := if f ≠ 0 then 2 else if t = 0 then 1 else 0
theorem Rw.last_eq (s : Rw.S) : Rw.last s = Rw.stT s.e s.left := rfl
set_option maxHeartbeats 1000000 in
theorem rwPut_done (c : Int) (w : World) (b : Nat) (h : Hd.H) (n : Int) (sv rv : Value) (rows f : Int) (x : Value) (H : RwC w b h n sv rv rows 0 f x) :
    Calls Tryz.prog 149 #[.pointer (some ⟨b, 0, none⟩), .int .u8 c] w fun e w' => e = .returned (.tuple #[.slice none 0 0, .int .i64 (Rw.stT f 0)]) ∧ w = w' := by
  have hc8 := H.c8
  have HS : Hid (Calls Tryz.prog 181 #[.pointer (some ⟨b, 0, none⟩)] w fun e w' => e = .returned (.int .i64 (Rw.stT f 0)) ∧ w = w') := Lib.hid (rwStatus_any w b h n sv rv rows 0 f x H)
  generalize Rw.stT f 0 = st at HS ⊢
  go_enter Tryz.func149, Tryz.ntmps149
  go_wp2_with (go_at_call 181; refine HS.out.mono ?_; rintro e w3 ⟨rfl, rfl⟩)
  go_returns
  exact ⟨rfl, rfl⟩
set_option maxHeartbeats 1000000 in
theorem rwPut_go (c : Int) (w : World) (b : Nat) (h : Hd.H) (n : Int) (sv rv : Value) (rows t : Int) (t0 : 1 ≤ t) (t1 : t ≤ 1610612736) (fn : Nat) (hn : ∀ args w, (callFunc fn args).run Tryz.prog w = .ok (.enter fn args) w) (H : RwC w b h n sv rv rows t 0 (.func (.func fn) #[.pointer (some ⟨b, 0, none⟩)] #[])) (m : Nat) (rows' t' f' : Int) (R : World → Option Addr → Value → Value → Prop)
    (hcall : Calls Tryz.prog fn #[.pointer (some ⟨b, 0, none⟩), .int .u8 c] (w.setCell ⟨b, 8, none⟩ (.int .i64 (t - 1))) fun e w' => ∃ a c' n' sv' rv' x', e = .returned (.slice a m c') ∧ RwC w' b h n' sv' rv' rows' t' f' x' ∧ R w' a sv' rv') :
    Calls Tryz.prog 149 #[.pointer (some ⟨b, 0, none⟩), .int .u8 c] w fun e w' => ∃ a c' sv' rv', e = .returned (.tuple #[.slice a m c', .int .i64 (Rw.stT f' t')]) ∧ R w' a sv' rv' := by
  have hc8 := H.c8
  have f8 := H.fr 8
  have d10 := (H.put8 (t - 1)).c10
  have HC := Lib.hid hcall
  have ht : (t == 0) = false := by simp; omega
  have e1 : wrap64 (t - 1) = t - 1 := by rw [IntWalk.wrap64_in] <;> omega
  have HS : Hid (∀ W n2 sv2 rv2 x2, RwC W b h n2 sv2 rv2 rows' t' f' x2 → Calls Tryz.prog 181 #[.pointer (some ⟨b, 0, none⟩)] W fun e w' => e = .returned (.int .i64 (Rw.stT f' t')) ∧ W = w') := Lib.hid fun W n2 sv2 rv2 x2 h2 => rwStatus_any W b h n2 sv2 rv2 rows' t' f' x2 h2
  generalize Rw.stT f' t' = st at HS ⊢
  clear hcall t0 t1
  go_enter Tryz.func149, Tryz.ntmps149
  go_wp2_with (first | (go_at_fn fn; refine HC.out.mono ?_; rintro e w2 ⟨a2, c2, n2, sv2, rv2, x2, rfl, h2, hR⟩; have HH2 := Lib.hid h2; have HR2 := Lib.hid hR; clear h2 hR) | (go_at_call 181; refine (HS.out _ _ _ _ _ HH2.out).mono ?_; rintro e w3 ⟨rfl, rfl⟩))
  go_returns
  exact ⟨a2, c2, sv2, rv2, rfl, HR2.out⟩
/-- what a reader hands back of a byte, and what its blocks hold then -/
def RwPutR (w : World) (b : Nat) (sv rv : Value) (q : Rw.S × List Int) (e : Ending) (w' : World) : Prop :=
  ∃ a c sv' rv', e = .returned (.tuple #[.slice a q.2.length c, .int .i64 (Rw.last q.1)]) ∧ RwX w' b sv' rv' q.1 ∧ SlK .u64 w' a q.2.length q.2 ∧ Sep (PlZ b sv rv) w w' ∧ PlNew w sv sv' ∧ PlNew w rv rv'
theorem Rw.left_le {s : Rw.S} (G : Rw.Good s) : s.left ≤ 1610612736 := by
  have hm := G.may.m
  have hs := (Rw.stride_at G.may).2.1
  rcases G.e with e | e
  · have h1 := G.left1 e
    have h2 : 0 ≤ s.rows * (Rw.stride s.h : Int) := Int.mul_nonneg G.rows0 (by omega)
    have h3 : s.h.h * (Rw.stride s.h : Int) ≤ 65536 * 24576 := Int.mul_le_mul (by omega) (by omega) (by omega) (by omega)
    omega
  · have := G.left5 e; omega
theorem RwT.z {W w : World} {b : Nat} {h : Hd.H} {sv0 rv0 : Value} {n : Int} {sv rv : Value} {one row : List Int} {rows t : Int} {x : Value} (T : RwT W b h sv0 rv0 n sv rv one row rows t x w) : ∀ k, PlZ b sv rv k → b ≤ k ∧ k < w.heap.size := by
  intro k hk
  have hb := T.c.lt
  rcases hk with rfl | hk | hk
  · exact ⟨Nat.le_refl _, hb⟩
  · have := T.s.lt k hk; omega
  · have := T.r.lt k hk; omega
theorem rw_put_live {s : Rw.S} {q : Rw.S × List Int} {w : World} {b : Nat} {sv rv : Value} (X : RwX w b sv rv s) (hl : s.left ≠ 0) (e0 : s.e = 0) (c : Int) (hG : Rw.Good q.1) (hqe : q.1.e = 0) (hqh : q.1.h = s.h) (hql : q.1.left = s.left - 1) (fn : Nat) (hn : ∀ args w, (callFunc fn args).run Tryz.prog w = .ok (.enter fn args) w) (hfn : Rw.nx s.h s.cur b = .func (.func fn) #[.pointer (some ⟨b, 0, none⟩)] #[])
    (hcall : ∀ n, Rw.Hi s.h s.cur n → ∀ W1, RwT W1 b s.h sv rv n sv rv (Rw.oneV s.h s.cur) (Rw.rowV s.h s.cur) s.rows (s.left - 1) (Rw.nx s.h s.cur b) W1 →
      Calls Tryz.prog fn #[.pointer (some ⟨b, 0, none⟩), .int .u8 c] W1 fun e w' => ∃ n' sv', RwTake W1 b s.h sv rv n' sv' (Rw.oneV s.h q.1.cur) (Rw.nx s.h q.1.cur b) (s.left - 1) (Rw.rowV s.h q.1.cur) q.1.rows q.2 e w' ∧ Rw.Hi s.h q.1.cur n') :
    Calls Tryz.prog 149 #[.pointer (some ⟨b, 0, none⟩), .int .u8 c] w (RwPutR w b sv rv q) := by
  obtain ⟨n, x, hC, hx⟩ := X.ex
  obtain ⟨rfl, hi, hs, hr⟩ := hx e0
  have hle := Rw.left_le X.g
  have hl0 := X.g.left0
  rw [e0] at hC
  have hC' := hC
  rw [hfn] at hC'
  refine (rwPut_go c w b s.h n sv rv s.rows s.left (by omega) hle fn hn hC' q.2.length q.1.rows (s.left - 1) 0 (fun w' a sv' rv' => ∃ n', RwT (w.setCell ⟨b, 8, none⟩ (.int .i64 (s.left - 1))) b s.h sv rv n' sv' rv' (Rw.oneV s.h q.1.cur) (Rw.rowV s.h q.1.cur) q.1.rows (s.left - 1) (Rw.nx s.h q.1.cur b) w' ∧ SlK .u64 w' a q.2.length q.2 ∧ Rw.Hi s.h q.1.cur n') ?_).mono ?_
  · refine (hcall n hi _ (.start (hC.put8 _) (set_ownsRow hs (Nat.lt_succ_self b) _) (set_ownsRow hr (Nat.lt_succ_self b) _))).mono ?_
    rintro e w' ⟨n', sv', ⟨a, c', rv', he, hT, hS⟩, hH⟩
    exact ⟨a, c', n', sv', rv', _, he, hT.c, n', hT, hS, hH⟩
  · rintro e w' ⟨a, c', sv', rv', he, n', hT, hS, hH⟩
    have S1 : Sep (PlZ b sv rv) w (w.setCell ⟨b, 8, none⟩ (.int .i64 (s.left - 1))) := .setCell _ (.inl rfl) _
    have hT' := hT.base S1
    refine ⟨a, c', sv', rv', by rw [he, Rw.last_eq, hqe, hql], ⟨hG, hT'.z, n', _, by rw [hqh, hql, hqe]; exact hT'.c, fun _ => ?_⟩, hS, hT'.f, hT'.ns, hT'.nr⟩
    rw [hqh]
    exact ⟨rfl, hH, hT'.s, hT'.r⟩
/-- a row is taken, if it is whole -/
theorem rw_take_fin {h : Hd.H} (hm : Rw.May h) {r : List Int} (hr : r.length ≤ Rw.stride h) {W w : World} {b : Nat} {sv0 rv0 : Value} {n : Int} {sv rv : Value} {rows t : Int} {x : Value} (rows0 : 0 ≤ rows) (rows1 : rows ≤ 65536) (T : RwT W b h sv0 rv0 n sv rv (Rw.oneV h r) (Rw.rowV h r) rows t x w) :
    Calls Tryz.prog 199 #[.pointer (some ⟨b, 0, none⟩)] w (RwTake W b h sv0 rv0 n sv (Rw.oneV h (if r.length = Rw.stride h then [] else r)) x t (Rw.rowV h (if r.length = Rw.stride h then [] else r)) (if r.length = Rw.stride h then rows + 1 else rows) (if r.length = Rw.stride h then Rw.rowV h r else [])) := by
  have hmm := hm.m
  have hl := Rw.row_len hm r
  by_cases h1 : r.length = Rw.stride h
  · rw [if_pos h1, if_pos h1, if_pos h1]
    have h2 := hl.2.1 h1
    have h3 := (Rw.row_end hm h1).1
    rw [Rw.oneV_nil, Rw.rowV_nil]
    have h4 := rwTake_yes T (by omega) (by omega) (by omega) rows0 rows1
    rw [h3] at h4
    exact h4
  · rw [if_neg h1, if_neg h1, if_neg h1]
    exact rwTake_no T (hl.1 (by omega))
end Go.Proofs.YtmnhiagppicegaaGreat

/- A reader of bytes is told a byte: what it comes to, over any memory. Condition: its head may be. -/
namespace Go.Proofs.YtmnhiagppicegaaGreat
open Go.RowKit
set_option linter.unusedVariables false

namespace Rw
theorem put_alive {s : S} (hl : s.left ≠ 0) {c : Int} (hb : ¬ bad s.h s.cur c) : put s c = (⟨s.h, if (s.cur ++ [c]).length = stride s.h then [] else s.cur ++ [c], if (s.cur ++ [c]).length = stride s.h then s.rows + 1 else s.rows, s.left - 1, 0⟩, if (s.cur ++ [c]).length = stride s.h then rowV s.h (s.cur ++ [c]) else []) := by
  unfold put
  rw [if_neg hl, if_neg hb, List.length_append, List.length_singleton]
  split <;> rfl
theorem put_bad {s : S} (hl : s.left ≠ 0) {c : Int} (hb : bad s.h s.cur c) : put s c = (⟨s.h, s.cur, s.rows, 0, 5⟩, []) := by
  unfold put
  rw [if_neg hl, if_pos hb]
theorem put_over {s : S} (hl : s.left = 0) (c : Int) : put s c = (s, []) := by unfold put; rw [if_pos hl]
theorem oneV4 {h : Hd.H} (h4 : h.kd = 4) (r : List Int) : oneV h r = [] := by unfold oneV; rw [if_pos h4]
theorem hi_val {h : Hd.H} {r : List Int} (hr : ∀ x ∈ r, 0 ≤ x ∧ x ≤ 255) (hf : (rest h r).length + 1 = wide h) {n : Int} (hi : Hi h r n) (c : Int) : val (rest h r ++ [c]) = n + c := by
  rcases wait_in (h := h) hr with e | ⟨y, e, _, _, _⟩
  · have e' : rest h r = [] := e
    rw [e'] at hf ⊢
    have hw := wide_at h
    rw [hi.1 (by simp at hf; omega)]
    show val [c] = _
    rw [val_one]; omega
  · have e' : rest h r = [y] := e
    rw [e', hi.2.1 y e']
    show val [y, c] = _
    rw [val_two]
theorem nx_low {h : Hd.H} {r : List Int} (h4 : h.kd ≠ 4) (hf : (rest h r).length + 1 = wide h) (b : Nat) : nx h r b = rwL b := by
  unfold nx
  rw [if_neg h4, if_neg]
  rintro ⟨h1, h2⟩
  rw [h2] at hf
  have := wide_at h
  simp at hf; omega
theorem nx_next {h : Hd.H} {r : List Int} (h4 : h.kd ≠ 4) (hr : rest h r = []) (b : Nat) : rwN h b (rwL b) = nx h r b := by
  unfold nx rwN
  rw [if_neg h4]
  by_cases h1 : 255 < h.m
  · rw [if_pos h1, if_pos ⟨h1, hr⟩]
  · rw [if_neg h1, if_neg fun h => h1 h.1]
theorem hi_next {h : Hd.H} {r r' : List Int} {n : Int} (hi : Hi h r n) (hr : rest h r' = []) : Hi h r' n := ⟨hi.1, (fun y hy => by rw [hr] at hy; cases hy), hi.2.2⟩
end Rw
set_option maxHeartbeats 2000000 in
theorem rwPut_any {s : Rw.S} (c : Int) (c0 : 0 ≤ c) (c1 : c ≤ 255) (w : World) (b : Nat) (sv rv : Value) (X : RwX w b sv rv s) :
    Calls Tryz.prog 149 #[.pointer (some ⟨b, 0, none⟩), .int .u8 c] w (RwPutR w b sv rv (Rw.put s c)) := by
  have hG := X.g
  have hm := hG.may.m
  by_cases hl : s.left = 0
  · rw [Rw.put_over hl]
    obtain ⟨n, x, hC, _⟩ := X.ex
    rw [hl] at hC
    refine (rwPut_done c w b s.h n sv rv s.rows s.e x hC).mono ?_
    rintro e w' ⟨he, rfl⟩
    exact ⟨none, 0, sv, rv, by rw [he, Rw.last_eq, hl]; rfl, X, Rw.slk_nil, .refl _ _, .inl rfl, .inl rfl⟩
  have e0 : s.e = 0 := by
    rcases hG.e with h | h
    · exact h
    · exact absurd (hG.left5 h) hl
  have hG' := Rw.good_put hG c c0 c1
  have hle := Rw.left_le hG
  have hl0 := hG.left0
  by_cases hb : Rw.bad s.h s.cur c
  · rw [Rw.put_bad hl hb] at hG' ⊢
    obtain ⟨h4, hf, hv⟩ := hb
    obtain ⟨n, x, hC, hx⟩ := X.ex
    obtain ⟨rfl, hi, hs, hr⟩ := hx e0
    rw [Rw.nx_low h4 hf, e0] at hC
    have hval := Rw.hi_val hG.byte hf hi c
    have hv' : s.h.m < n + c := by rw [← hval]; exact hv
    refine (rwPut_go c w b s.h n sv rv s.rows s.left (by omega) hle _ enRL hC 0 s.rows 0 5 (fun w' a sv' rv' => a = none ∧ sv' = sv ∧ rv' = rv ∧ RwC w' b s.h n sv rv s.rows 0 5 (rwL b) ∧ (w.setCell ⟨b, 8, none⟩ (.int .i64 (s.left - 1))).grownBy w' (some b)) ?_).mono ?_
    · refine (rwLow_bad (hC.put8 _) c c0 c1 hi.2.2.1 hi.2.2.2 hv').mono ?_
      rintro e w' ⟨he, hC', hg⟩
      exact ⟨none, 0, n, sv, rv, rwL b, he, hC', rfl, rfl, rfl, hC', hg⟩
    · rintro e w' ⟨a, c', sv', rv', he, rfl, rfl, rfl, hC', hg⟩
      have S2 : Sep (PlZ b sv' rv') w w' := (Sep.setCell w (.inl rfl) _).trans (.grown hg (.inl rfl))
      exact ⟨none, c', sv', rv', he, ⟨hG', z_up X.z S2.size, n, rwL b, hC', (fun h => absurd h (show ¬ (5 : Int) = 0 by decide))⟩, Rw.slk_nil, S2, .inl rfl, .inl rfl⟩
  rw [Rw.put_alive hl hb] at hG' ⊢
  have hrl : (s.cur ++ [c]).length ≤ Rw.stride s.h := by rw [List.length_append, List.length_singleton]; have := hG.cur; omega
  have hcl := Rw.row_len hG.may s.cur
  have hcl1 := hcl.1 hG.cur
  have hr4 : (Rw.rowV s.h s.cur).length ≤ 4096 := by omega
  have ho := Rw.one_len (h := s.h) s.cur
  have hch := Rw.chan_at s.h
  have ho3 : (Rw.oneV s.h s.cur).length ≤ 3 := by omega
  have hrw0 := hG.rows0
  have hrw1 : s.rows ≤ 65536 := by have := hG.rows1; omega
  by_cases h4 : s.h.kd = 4
  · have hnx : ∀ r, Rw.nx s.h r b = rwE b := fun r => by unfold Rw.nx; rw [if_pos h4]
    refine rw_put_live X hl e0 c hG' rfl rfl rfl _ enRE (hnx _) ?_
    intro n hi W1 T1
    obtain ⟨v, hv, v1, v8, _, _⟩ := Rw.min_w hcl1 (by omega) (by omega)
    have hrow := Rw.row4 hG.may h4 hG.cur c hv
    have h11 := hG.may.one h4
    have hw0 : ∀ r, Rw.rest s.h r = [] := fun r => by unfold Rw.rest; rw [h11.2.1, Rw.parts_one]
    refine (rwEighth_any T1 (by omega) hcl1 c c0 c1 v hv v1 v8 (Rw.rowV s.h (if (s.cur ++ [c]).length = Rw.stride s.h then [] else s.cur ++ [c])) (if (s.cur ++ [c]).length = Rw.stride s.h then s.rows + 1 else s.rows) (if (s.cur ++ [c]).length = Rw.stride s.h then Rw.rowV s.h (s.cur ++ [c]) else []) (fun w1 rv1 T' => ?_)).mono ?_
    · have T2 : RwT W1 b s.h sv rv n sv rv1 (Rw.oneV s.h (s.cur ++ [c])) (Rw.rowV s.h (s.cur ++ [c])) s.rows (s.left - 1) (Rw.nx s.h s.cur b) w1 := by
        rw [Rw.oneV4 h4 s.cur] at T'
        rw [Rw.oneV4 h4, hrow]
        exact T'
      have h := rw_take_fin hG.may hrl hrw0 hrw1 T2
      rw [Rw.oneV4 h4] at h
      rw [Rw.oneV4 h4]
      exact h
    · intro e w' h
      rw [Rw.oneV4 h4] at h
      refine ⟨n, sv, ?_, Rw.hi_next hi (hw0 _)⟩
      rw [Rw.oneV4 h4, hnx, ← hnx s.cur]
      exact h
  by_cases hf : (Rw.rest s.h s.cur).length + 1 = Rw.wide s.h
  · have hnx := Rw.nx_low h4 hf b
    refine rw_put_live X hl e0 c hG' rfl rfl rfl _ enRL hnx ?_
    intro n hi W1 T1
    have hval := Rw.hi_val hG.byte hf hi c
    have hle' : n + c ≤ s.h.m := by rw [← hval]; exact Int.not_lt.1 fun h => hb ⟨h4, hf, h⟩
    have hceq := Rw.chan_eq hG.may
    rw [hnx] at T1
    by_cases hone : (Rw.oneV s.h s.cur).length + 1 = Rw.chan s.h
    · obtain ⟨p1, p2, p3⟩ := Rw.row_pix h4 (c := c) hf hone
      have hre : ∀ r, r = [] ∨ r = s.cur ++ [c] → Rw.rest s.h r = [] ∧ Rw.oneV s.h r = [] := by
        rintro r (rfl | rfl)
        · exact ⟨rfl, Rw.oneV_nil _⟩
        · exact ⟨p3, p2⟩
      obtain ⟨z1, z2⟩ := hre (if (s.cur ++ [c]).length = Rw.stride s.h then [] else s.cur ++ [c]) (by split <;> simp)
      have htk : ∀ w1 sv1 rv1 y, RwT W1 b s.h sv rv n sv1 rv1 [] (Rw.rowV s.h s.cur ++ [Rw.pk (Rw.oneV s.h s.cur ++ [n + c])]) s.rows (s.left - 1) y w1 → Calls Tryz.prog 199 #[.pointer (some ⟨b, 0, none⟩)] w1 (RwTake W1 b s.h sv rv n sv1 [] y (s.left - 1) (Rw.rowV s.h (if (s.cur ++ [c]).length = Rw.stride s.h then [] else s.cur ++ [c])) (if (s.cur ++ [c]).length = Rw.stride s.h then s.rows + 1 else s.rows) (if (s.cur ++ [c]).length = Rw.stride s.h then Rw.rowV s.h (s.cur ++ [c]) else [])) := fun w1 sv1 rv1 y T' => by
        rw [← hval, ← p1] at T'
        have h := rw_take_fin hG.may hrl hrw0 hrw1 (r := s.cur ++ [c]) (by rw [p2]; exact T')
        rw [z2] at h
        exact h
      have hgo : Calls Tryz.prog 180 #[.pointer (some ⟨b, 0, none⟩), .int .u8 c] W1 fun e w' => ∃ sv', RwTake W1 b s.h sv rv n sv' [] (rwN s.h b (rwL b)) (s.left - 1) (Rw.rowV s.h (if (s.cur ++ [c]).length = Rw.stride s.h then [] else s.cur ++ [c])) (if (s.cur ++ [c]).length = Rw.stride s.h then s.rows + 1 else s.rows) (if (s.cur ++ [c]).length = Rw.stride s.h then Rw.rowV s.h (s.cur ++ [c]) else []) e w' := by
        by_cases h255 : 255 < s.h.m
        · exact rwLow_pix2 hG.may.1 T1 c c0 c1 hi.2.2.1 hi.2.2.2 hle' h255 ho3 hr4 (by omega) _ _ _ htk
        · exact rwLow_pix1 hG.may.1 T1 c c0 c1 hi.2.2.1 hi.2.2.2 hle' h255 ho3 hr4 (by omega) _ _ _ htk
      refine hgo.mono ?_
      rintro e w' ⟨sv', h⟩
      refine ⟨n, sv', ?_, Rw.hi_next hi z1⟩
      rw [z2, ← Rw.nx_next h4 z1]
      exact h
    · obtain ⟨p1, p2, p3⟩ := Rw.row_more h4 (c := c) hf hone
      have hne : ¬ (s.cur ++ [c]).length = Rw.stride s.h := fun h => by
        have := (Rw.row_end hG.may h).1
        rw [p2] at this; simp at this
      have hgo : Calls Tryz.prog 180 #[.pointer (some ⟨b, 0, none⟩), .int .u8 c] W1 fun e w' => ∃ sv', RwTake W1 b s.h sv rv n sv' (Rw.oneV s.h s.cur ++ [n + c]) (rwN s.h b (rwL b)) (s.left - 1) (Rw.rowV s.h s.cur) s.rows [] e w' := by
        by_cases h255 : 255 < s.h.m
        · exact rwLow_more2 hG.may.1 T1 c c0 c1 hi.2.2.1 hi.2.2.2 hle' h255 ho3 hr4 (by omega) hcl1
        · exact rwLow_more1 hG.may.1 T1 c c0 c1 hi.2.2.1 hi.2.2.2 hle' h255 ho3 hr4 (by omega) hcl1
      refine hgo.mono ?_
      rintro e w' ⟨sv', h⟩
      simp only [if_neg hne]
      refine ⟨n, sv', ?_, Rw.hi_next hi p3⟩
      rw [p1, p2, hval, ← Rw.nx_next h4 p3]
      exact h
  · obtain ⟨p1, p2, p3⟩ := Rw.row_wait h4 (c := c) hf
    have hw := Rw.wide_at s.h
    have hr0 : Rw.rest s.h s.cur = [] ∧ 255 < s.h.m := by
      rcases Rw.wait_in (h := s.h) hG.byte with e | ⟨y, e, _, _, h2⟩
      · have e' : Rw.rest s.h s.cur = [] := e
        rw [e'] at hf
        exact ⟨e', by simp at hf; omega⟩
      · have e' : Rw.rest s.h s.cur = [y] := e
        rw [e', h2] at hf
        simp at hf
    have hne : ¬ (s.cur ++ [c]).length = Rw.stride s.h := fun h => by
      have := (Rw.row_end hG.may h).2 h4
      rw [p3] at this; simp at this
    have hnx : Rw.nx s.h s.cur b = rwH b := by unfold Rw.nx; rw [if_neg h4, if_pos ⟨hr0.2, hr0.1⟩]
    refine rw_put_live X hl e0 c hG' rfl rfl rfl _ enRH hnx ?_
    intro n hi W1 T1
    refine (rwHigh_any W1 b s.h n sv rv s.rows (s.left - 1) 0 _ T1.c c c0 c1).mono ?_
    rintro e w' ⟨he, hC, hg⟩
    simp only [if_neg hne]
    have hnx' : Rw.nx s.h (s.cur ++ [c]) b = rwL b := by unfold Rw.nx; rw [if_neg h4, if_neg]; rintro ⟨_, h⟩; rw [p3] at h; simp at h
    refine ⟨c * 256, sv, ⟨none, 0, rv, he, ?_, Rw.slk_nil⟩, ⟨fun h => by omega, fun y hy => ?_, by omega, by omega⟩⟩
    · rw [p1, p2, hnx']
      exact ⟨hC, T1.s.kept hg (.inr fun e => T1.nes e.symm), T1.r.kept hg (.inr fun e => T1.ner e.symm), .grown hg (.inl rfl), .inl rfl, .inl rfl⟩
    · rw [p3, hr0.1] at hy
      simp at hy
      rw [hy]
theorem rwError_x {w : World} {b : Nat} {sv rv : Value} {s : Rw.S} (X : RwX w b sv rv s) :
    Calls Tryz.prog 150 #[.pointer (some ⟨b, 0, none⟩)] w fun e w' => e = .returned (.int .i64 s.e) ∧ w = w' := by
  obtain ⟨n, x, hC, _⟩ := X.ex
  exact rwError_any w b s.h n sv rv s.rows s.left s.e x hC
end Go.Proofs.YtmnhiagppicegaaGreat

/- All pixels of a raster of bytes, over any memory. Condition: not too many bytes, the head's numbers fit. -/
namespace Go.Proofs.YtmnhiagppicegaaGreat
open Go.RowKit
set_option linter.unusedVariables false
namespace Rw
/-- told the rest of the bytes -/
def readF : S → List Int → List Int → List Int × Int
  | s, acc, [] => ([], 6)
  | s, acc, c :: cs =>
    if last (put s c).1 = 1 then (acc ++ (put s c).2, 0)
    else if last (put s c).1 = 2 then ([], (put s c).1.e)
    else readF (put s c).1 (acc ++ (put s c).2) cs
def readV (h : Hd.H) (x : List Int) : List Int × Int := if May h then readF (new h) [] x else ([], 1)
theorem readF_over {s : S} {q : S × List Int} {acc : List Int} {c : Int} {cs : List Int} (hq : put s c = q) (h : last q.1 = 1) : readF s acc (c :: cs) = (acc ++ q.2, 0) := by rw [readF, hq, if_pos h]
theorem readF_wrong {s : S} {q : S × List Int} {acc : List Int} {c : Int} {cs : List Int} (hq : put s c = q) (h : last q.1 = 2) : readF s acc (c :: cs) = ([], q.1.e) := by rw [readF, hq, if_neg (by omega), if_pos h]
theorem readF_more {s : S} {q : S × List Int} {acc : List Int} {c : Int} {cs : List Int} (hq : put s c = q) (h : last q.1 = 0) : readF s acc (c :: cs) = readF q.1 (acc ++ q.2) cs := by rw [readF, hq, if_neg (by omega), if_neg (by omega)]
theorem readF_nil (s : S) (acc : List Int) : readF s acc [] = ([], 6) := by rw [readF]
theorem last_012 (s : S) : last s = 0 ∨ last s = 1 ∨ last s = 2 := by unfold last; split <;> (try split) <;> simp
theorem size_pos {h : Hd.H} (H : May h) : 1 ≤ Hj.size h := by
  have hm := H.m
  have hs := stride_at H
  rw [size_eq H]
  have h1 : (1 : Int) * 1 ≤ h.h * (stride h : Int) := Int.mul_le_mul (by omega) (by omega) (by omega) (by omega)
  omega
theorem last_new {h : Hd.H} (H : May h) : last (new h) = 0 := by
  have := size_pos H
  unfold last
  show (if (0 : Int) ≠ 0 then (2 : Int) else if Hj.size h = 0 then 1 else 0) = 0
  rw [if_neg (by omega), if_neg (by omega)]
theorem put_len {s : S} (G : Good s) (c : Int) : (put s c).2.length ≤ 4096 := by
  have hm := G.may.m
  unfold put
  split
  · simp
  split
  · simp
  split
  · rename_i h
    have := (row_len G.may (s.cur ++ [c])).2.1 (by rw [List.length_append, List.length_singleton]; exact h)
    show (rowV s.h (s.cur ++ [c])).length ≤ _
    omega
  · simp
end Rw
theorem RwX.kept {w w' : World} {b : Nat} {sv rv v : Value} {s : Rw.S} (X : RwX w b sv rv s) (ha : Ap v b sv rv) (hg : w.grownBy w' v.ownBlock) : RwX w' b sv rv s := by
  obtain ⟨n, x, hC, hx⟩ := X.ex
  refine ⟨X.g, z_up X.z hg.size, n, x, hC.kept hg ha.ne, fun h0 => ?_⟩
  obtain ⟨e1, e2, h1, h2⟩ := hx h0
  exact ⟨e1, e2, h1.kept hg ha.s, h2.kept hg ha.r⟩
theorem RwX.later {w w' : World} {b : Nat} {sv rv : Value} {s : Rw.S} (X : RwX w b sv rv s) (hb : Below w.heap.size w w') : RwX w' b sv rv s := by
  obtain ⟨n, x, hC, hx⟩ := X.ex
  refine ⟨X.g, z_up X.z hb.size, n, x, hC.later hb, fun h0 => ?_⟩
  obtain ⟨e1, e2, h1, h2⟩ := hx h0
  exact ⟨e1, e2, below_row h1 hb, below_row h2 hb⟩
theorem RwX.lt {w : World} {b : Nat} {sv rv : Value} {s : Rw.S} (X : RwX w b sv rv s) : b < w.heap.size := by obtain ⟨n, x, hC, _⟩ := X.ex; exact hC.lt
theorem Rw.ap_app {w : World} {b : Nat} {sv rv v v' : Value} {s : Rw.S} (X : RwX w b sv rv s) (ha : Ap v b sv rv) (hat : v'.ownBlock = v.ownBlock ∨ v'.ownBlock = some w.heap.size) : Ap v' b sv rv := by
  intro k hk hz
  rcases hat with h | h
  · exact ha k (by rw [← h]; exact hk) hz
  · rw [h] at hk; cases hk
    have := (X.z _ hz).2; omega
/-- all pixels, told -/
def RwdR (t : List Int × Int) (w : World) (e : Ending) (w' : World) : Prop :=
  ∃ a c, e = .returned (.tuple #[.slice a t.1.length c, .int .i64 t.2]) ∧ SlK .u64 w' a t.1.length t.1 ∧ Below w.heap.size w w'
theorem rwd_nil {t : List Int × Int} {e : Int} (ht : t = ([], e)) {w w' : World} (hB : Below w.heap.size w w') : RwdR t w (.returned (.tuple #[.slice none 0 0, .int .i64 e])) w' :=
  ⟨none, 0, by rw [ht]; rfl, by rw [ht]; exact slk_nil, hB⟩
theorem rwd_row {t : List Int × Int} {l : List Int} {e : Int} (ht : t = (l, e)) {w w' : World} {base k : Nat} {v : Value} (hr : w'.ownsRow base 26 1 v k (pixs l)) (hk : l.length = k) (hB : Below w.heap.size w w') : RwdR t w (.returned (.tuple #[v, .int .i64 e])) w' := by
  obtain ⟨a, c, rfl, hs⟩ := slk_row hr hk
  subst hk
  exact ⟨a, c, by rw [ht], by rw [ht]; exact hs, hB⟩
set_option maxRecDepth 100000 in
set_option maxHeartbeats 4000000 in
theorem rwRead_any (ab : Option Addr) (nb cb : Nat) (bs : List Int) (hnb : nb ≤ 100000) (h : Hd.H) (hf : Hj.Fit h) (w : World) (hs : Bt.Bs w ab nb cb bs) :
    Calls Tryz.prog 104 #[.slice ab nb cb, agH h] w (RwdR (Rw.readV h bs) w) := by
  by_cases hm : Rw.May h
  · have HN := Lib.hid (rwNew_yes h hf hm)
    obtain ⟨t0, ht0⟩ : ∃ t, Rw.readV h bs = t := ⟨_, rfl⟩
    have HV0 : Hid (t0 = Rw.readF (Rw.new h) [] bs) := by show _ = _; rw [← ht0]; exact if_pos hm
    rw [ht0]
    obtain ⟨p0, pi, pz0, pz1, pz2⟩ : ∃ i, Tryz.prog.info? 26 = some i ∧ i.zero = some (.int .u64 0) ∧ i.size = 1 ∧ i.bytes = 8 := (by have h := Tryz.info_px8; cases hh : Tryz.prog.info? 26 with | none => rw [hh] at h; cases h | some i => rw [hh] at h; simp at h; exact ⟨i, rfl, h.1, h.2.1, h.2.2⟩)
    have HSB := Lib.hid hs.1
    have HBY := Lib.hid hs.2.2.2
    have HLB : Hid (bs.length = nb) := Lib.hid hs.1.1
    have HL0 := Lib.hid (Rw.last_new hm)
    clear ht0 hf hm hs
    unfold agH at HN ⊢
    go_enter Tryz.func104, Tryz.ntmps104
    go_wp2_with fail
    refine (HN.out _).mono ?_
    rintro e w1 ⟨b, rfl, hwb, hX, hb1⟩
    have HX1 := Lib.hid hX
    have HB1 := Lib.hid (((Below.refl _ w).alloc (Nat.le_refl _) _).trans (hb1.mono (by simp)))
    have HWB : Hid (w.heap.size ≤ b) := Lib.hid (by simp at hwb; omega)
    clear hX hb1 hwb
    go_wp2_with fail
    go_loopw [8, 23] (fun u8 u23 wr => ∃ (i : Nat) (sv rv : Value) (st : Rw.S) (acc : List Int) (v : Value), i ≤ nb ∧ u23 = .int .i64 i ∧ v = u8 ∧ RwX wr b sv rv st ∧ Rw.last st = 0 ∧ wr.ownsRow w.heap.size 26 1 v acc.length (pixs acc) ∧ Ap v b sv rv ∧ acc.length ≤ 4096 * i ∧ Below w.heap.size w wr ∧ t0 = Rw.readF st acc (bs.drop i)) (fun _ u23 _ => nb - (intOf u23).toNat)
    case atStart => exact ⟨0, _, _, Rw.new h, [], _, Nat.zero_le _, rfl, rfl, HX1.out, HL0.out, World.ownsRow_nil _ _ _ _, ap_nil _ _ _, Nat.le_refl _, HB1.out, HV0.out⟩
    case round =>
      obtain ⟨i, sv, rv, st, acc, v, hi1, rfl, rfl, hX, h0, hrow, hap, hgr, hB, hV⟩ := hrel
      have HX := Lib.hid hX
      have HROW := Lib.hid hrow
      have HAP := Lib.hid hap
      have HB := Lib.hid hB
      have H0 := Lib.hid h0
      have HG := Lib.hid hX.g
      obtain ⟨n, hn⟩ : ∃ n, acc.length = n := ⟨_, rfl⟩
      have HNL := Lib.hid hn
      rw [hn] at hgr
      have HROW' : Hid (wr.ownsRow w.heap.size 26 1 v n (pixs acc)) := by show World.ownsRow _ _ _ _ _ _ _; have h := hrow; rw [hn] at h; exact h
      have hn9 : n ≤ 409600000 := by omega
      have HGR := Lib.hid hgr
      have hsl := HSB.out.below hB
      clear hX hrow hap hB h0 hn
      have HPZ : Hid (∀ (q : Rw.S × List Int) (w2 : World) sv' rv', RwX w2 b sv' rv' q.1 → Sep (PlZ b sv rv) wr w2 → PlNew wr sv sv' → PlNew wr rv rv' → w2.ownsRow w.heap.size 26 1 v n (pixs acc) ∧ Ap v b sv' rv' ∧ Below w.heap.size w w2) := Lib.hid fun q w2 sv' rv' hX2 hS hN1 hN2 =>
        ⟨row_sep HROW'.out hS HAP.out, ap_put HROW'.out HAP.out hN1 hN2, HB.out.trans (hS.below HB.out.size (fun k hk hz => by have := (HX.out.z k hz).1; have := HWB.out; omega))⟩
      by_cases hlt : i < nb
      · have hdr : bs.drop i = bs.getD i 0 :: bs.drop (i + 1) := by rw [List.drop_eq_getElem_cons (by rw [HLB.out]; exact hlt), List.getD_eq_getElem?_getD, List.getElem?_eq_getElem (by rw [HLB.out]; exact hlt)]; rfl
        rw [hdr] at hV
        obtain ⟨c, hc⟩ : ∃ c, bs.getD i 0 = c := ⟨_, rfl⟩
        obtain ⟨c0, c1⟩ := HBY.out c (by rw [← hc, List.getD_eq_getElem?_getD, List.getElem?_eq_getElem (by rw [HLB.out]; exact hlt)]; exact List.getElem_mem _)
        obtain ⟨bg, bo, hba, hbc⟩ := Rw.slk_pos hsl (by omega)
        have hcell := hbc i hlt
        rw [hc] at hV hcell
        have HP := rwPut_any c c0 c1 wr b sv rv HX.out
        have hg' := Rw.put_len HG.out c
        have hG' := Rw.last_012 (Rw.put st c).1
        obtain ⟨q, hq⟩ : ∃ q, Rw.put st c = q := ⟨_, rfl⟩
        rw [hq] at HP hg' hG'
        obtain ⟨m, hm⟩ : ∃ m, q.2.length = m := ⟨_, rfl⟩
        have hml : m ≤ 4096 := by omega
        have HML := Lib.hid hm
        subst hba
        clear hdr hbc hsl c0 c1 hc
        by_cases h1 : Rw.last q.1 = 1
        · have HV2 : Hid (t0 = (acc ++ q.2, 0)) := by show _ = _; rw [hV, Rw.readF_over hq h1]
          unfold RwPutR at HP
          rw [h1, hm] at HP
          have HPC := Lib.hid HP
          clear HP hg' hG' hq hm hV h1 hgr
          go_wp2_with (first | (at_builtin; refine wpList_app rfl _ _ 29 rfl w.heap.size 26 p0 .u64 8 Tryz.underlying29 pi pz0 pz1 pz2 v n (pixs acc) rfl HO2.out a m c' q.2 rfl HS2.out (by unfold maxLen; omega) (by omega) HB2.out.size ?_; intro v3 w3 hown hgrow hat; have HO3 := Lib.hid hown; have HB3 := Lib.hid (HB2.out.grown hgrow HB2.out.size (fun j ej => (HO2.out.lt j ej).1)); clear hown hgrow hat) | (go_at_call 149; refine HPC.out.mono ?_; rintro e w2 ⟨a, c', sv', rv', rfl, hX2, hS2, hF2, hN1, hN2⟩; obtain ⟨z1, z2, z3⟩ := HPZ.out q w2 sv' rv' hX2 hF2 hN1 hN2; have HO2 := Lib.hid z1; have HB2 := Lib.hid z3; have HS2 := Lib.hid hS2; clear hX2 hS2 hF2 hN1 hN2 z1 z2 z3))
          go_returns
          exact rwd_row HV2.out (by have h := HO3.out; unfold pixs; rw [List.map_append]; exact h) (by rw [List.length_append, HNL.out, HML.out]) HB3.out
        by_cases h2 : Rw.last q.1 = 2
        · have HV2 : Hid (t0 = ([], q.1.e)) := by show _ = _; rw [hV, Rw.readF_wrong hq h2]
          unfold RwPutR at HP
          rw [h2, hm] at HP
          have HPC := Lib.hid HP
          clear HP hg' hG' hq hm hV h1 h2 hgr
          go_wp2_with (first | (at_builtin; refine wpList_app rfl _ _ 29 rfl w.heap.size 26 p0 .u64 8 Tryz.underlying29 pi pz0 pz1 pz2 v n (pixs acc) rfl HO2.out a m c' q.2 rfl HS2.out (by unfold maxLen; omega) (by omega) HB2.out.size ?_; intro v3 w3 hown hgrow hat; have HB3 := Lib.hid (HB2.out.grown hgrow HB2.out.size (fun j ej => (HO2.out.lt j ej).1)); have HX3 := Lib.hid (HX2.out.kept HA2.out hgrow); clear hown hgrow hat) | (go_at_call 149; refine HPC.out.mono ?_; rintro e w2 ⟨a, c', sv', rv', rfl, hX2, hS2, hF2, hN1, hN2⟩; obtain ⟨z1, z2, z3⟩ := HPZ.out q w2 sv' rv' hX2 hF2 hN1 hN2; have HO2 := Lib.hid z1; have HA2 := Lib.hid z2; have HB2 := Lib.hid z3; have HS2 := Lib.hid hS2; have HX2 := Lib.hid hX2; clear hX2 hS2 hF2 hN1 hN2 z1 z2 z3) | (go_at_call 150; refine (rwError_x HX3.out).mono ?_; rintro e w9 ⟨rfl, rfl⟩))
          go_returns
          exact rwd_nil HV2.out HB3.out
        · have h3 : Rw.last q.1 = 0 := by omega
          have HV2 : Hid (t0 = Rw.readF q.1 (acc ++ q.2) (bs.drop (i + 1))) := by show _ = _; rw [hV, Rw.readF_more hq h3]
          unfold RwPutR at HP
          rw [h3, hm] at HP
          have HPC := Lib.hid HP
          have H3 := Lib.hid h3
          clear HP hg' hG' hq hm hV h1 h2 h3 hgr
          go_wp2_with (first | (at_builtin; refine wpList_app rfl _ _ 29 rfl w.heap.size 26 p0 .u64 8 Tryz.underlying29 pi pz0 pz1 pz2 v n (pixs acc) rfl HO2.out a m c' q.2 rfl HS2.out (by unfold maxLen; omega) (by omega) HB2.out.size ?_; intro v3 w3 hown hgrow hat; have HO3 := Lib.hid hown; have HB3 := Lib.hid (HB2.out.grown hgrow HB2.out.size (fun j ej => (HO2.out.lt j ej).1)); have HX3 := Lib.hid (HX2.out.kept HA2.out hgrow); have HA3 := Lib.hid (Rw.ap_app HX2.out HA2.out hat); clear hown hgrow hat) | (go_at_call 149; refine HPC.out.mono ?_; rintro e w2 ⟨a, c', sv', rv', rfl, hX2, hS2, hF2, hN1, hN2⟩; obtain ⟨z1, z2, z3⟩ := HPZ.out q w2 sv' rv' hX2 hF2 hN1 hN2; have HO2 := Lib.hid z1; have HA2 := Lib.hid z2; have HB2 := Lib.hid z3; have HS2 := Lib.hid hS2; have HX2 := Lib.hid hX2; clear hX2 hS2 hF2 hN1 hN2 z1 z2 z3))
          go_roundw
          case rel => exact ⟨i + 1, sv', rv', q.1, acc ++ q.2, v3, by omega, by go_num, rfl, HX3.out, H3.out, by rw [List.length_append, HNL.out, HML.out]; have h := HO3.out; unfold pixs; rw [List.map_append]; exact h, HA3.out, by rw [List.length_append, HNL.out, HML.out]; have := HGR.out; omega, HB3.out, HV2.out⟩
          case measure => simp [intOf]; omega
      · have HV2 : Hid (t0 = ([], 6)) := by
          show _ = _
          rw [hV, List.drop_of_length_le (by rw [HLB.out]; omega), Rw.readF_nil]
        clear hV hgr hsl
        go_wp2
        go_returns
        exact rwd_nil HV2.out HB.out
  · have HN := Lib.hid (rwNew_no h hf hm)
    have HV0 : Hid (Rw.readV h bs = ([], 1)) := Lib.hid (if_neg hm)
    obtain ⟨t0, ht0⟩ : ∃ t, Rw.readV h bs = t := ⟨_, rfl⟩
    rw [ht0] at HV0 ⊢
    clear hf hm ht0
    unfold agH at HN ⊢
    go_enter Tryz.func104, Tryz.ntmps104
    go_wp2_with (go_at_call 148; refine (HN.out _).mono ?_; rintro e w9 ⟨rfl, hb9⟩; have hBz := Lib.hid (((Below.refl _ w).alloc (Nat.le_refl _) _).trans (hb9.mono (by simp))))
    go_returns
    exact rwd_nil HV0.out hBz.out
end Go.Proofs.YtmnhiagppicegaaGreat

/- All pixels of a raster of digits, over any memory. Condition: the text is short, the head's numbers fit. -/
namespace Go.Proofs.YtmnhiagppicegaaGreat
open Go.RowKit
set_option linter.unusedVariables false

set_option maxRecDepth 100000 in
set_option maxHeartbeats 4000000 in
theorem plRead_any (s : ByteArray) (hsz : s.size ≤ 100000) (h : Hd.H) (hf : Hj.Fit h) (w : World) :
    Calls Tryz.prog 103 #[.string s, agH h] w (RdR (Pl.readV h (bytesOf s)) w) := by
  by_cases hm : Pl.May h
  · have HN := Lib.hid (plNew_yes h hf hm)
    obtain ⟨t0, ht0⟩ : ∃ t, Pl.readV h (bytesOf s) = t := ⟨_, rfl⟩
    have HV0 : Hid (t0 = Pl.readF (Pl.new h) 0 [] (bytesOf s)) := by show _ = _; rw [← ht0]; exact if_pos hm
    rw [ht0]
    obtain ⟨p0, pi, pz0, pz1, pz2⟩ : ∃ i, Tryz.prog.info? 26 = some i ∧ i.zero = some (.int .u64 0) ∧ i.size = 1 ∧ i.bytes = 8 := (by have h := Tryz.info_px8; cases hh : Tryz.prog.info? 26 with | none => rw [hh] at h; cases h | some i => rw [hh] at h; simp at h; exact ⟨i, rfl, h.1, h.2.1, h.2.2⟩)
    clear ht0 hf hm
    unfold agH at HN ⊢
    go_enter Tryz.func103, Tryz.ntmps103
    go_wp2_with fail
    refine (HN.out _).mono ?_
    rintro e w1 ⟨b, rfl, hwb, hX, hb1⟩
    have HX1 := Lib.hid hX
    have HB1 := Lib.hid (((Below.refl _ w).alloc (Nat.le_refl _) _).trans (hb1.mono (by simp)))
    have HWB : Hid (w.heap.size ≤ b) := Lib.hid (by simp at hwb; omega)
    clear hX hb1 hwb
    go_wp2_with fail
    go_loopw [9, 25] (fun u9 u25 wr => ∃ (i : Nat) (sv rv : Value) (st : Pl.S) (acc : List Int) (v : Value), i ≤ s.size ∧ u25 = .int .i64 i ∧ v = u9 ∧ PlX wr b sv rv st ∧ st.last = 0 ∧ wr.ownsRow w.heap.size 26 1 v acc.length (pixs acc) ∧ Ap v b sv rv ∧ acc.length + st.row.length ≤ i ∧ Below w.heap.size w wr ∧ t0 = Pl.readF st i acc ((bytesOf s).drop i)) (fun _ u25 _ => s.size - (intOf u25).toNat)
    case atStart => exact ⟨0, _, _, Pl.new h, [], _, Nat.zero_le _, rfl, rfl, HX1.out, rfl, World.ownsRow_nil _ _ _ _, ap_nil _ _ _, Nat.le_refl _, HB1.out, HV0.out⟩
    case round =>
      obtain ⟨i, sv, rv, st, acc, v, hi1, rfl, rfl, hX, h0, hrow, hap, hgr, hB, hV⟩ := hrel
      have HX := Lib.hid hX
      have HROW := Lib.hid hrow
      have HAP := Lib.hid hap
      have HB := Lib.hid hB
      have H0 := Lib.hid h0
      have HG := Lib.hid hX.g
      obtain ⟨n, hn⟩ : ∃ n, acc.length = n := ⟨_, rfl⟩
      have HNL := Lib.hid hn
      rw [hn] at hgr
      have HROW' : Hid (wr.ownsRow w.heap.size 26 1 v n (pixs acc)) := by show World.ownsRow _ _ _ _ _ _ _; have h := hrow; rw [hn] at h; exact h
      have hn9 : n ≤ 100000 := by omega
      have HGR := Lib.hid hgr
      clear hX hrow hap hB h0 hn
      have HPZ : Hid (∀ (q : Pl.S × List Int) (w2 : World) sv' rv', PlX w2 b sv' rv' q.1 → Sep (PlZ b sv rv) wr w2 → PlNew wr sv sv' → PlNew wr rv rv' → w2.ownsRow w.heap.size 26 1 v n (pixs acc) ∧ Ap v b sv' rv' ∧ Below w.heap.size w w2) := Lib.hid fun q w2 sv' rv' hX2 hS hN1 hN2 =>
        ⟨row_sep HROW'.out hS HAP.out, ap_put HROW'.out HAP.out hN1 hN2, HB.out.trans (hS.below HB.out.size (fun k hk hz => by have := (HX.out.z k hz).1; have := HWB.out; omega))⟩
      by_cases hlt : i < s.size
      · rw [bytesOf_drop s i hlt] at hV
        have c0 : (0 : Int) ≤ (s[i].toNat : Int) := by omega
        have c1 : (s[i].toNat : Int) ≤ 255 := by have := s[i].toNat_lt; omega
        have HP := plPut_any (s[i].toNat : Int) c0 c1 wr b sv rv HX.out
        have hg' := Pl.put_grow st (s[i].toNat : Int)
        have hG' := (Pl.good_put HG.out (s[i].toNat : Int)).last
        obtain ⟨q, hq⟩ : ∃ q, Pl.put st (s[i].toNat : Int) = q := ⟨_, rfl⟩
        rw [hq] at HP hg' hG'
        obtain ⟨m, hm⟩ : ∃ m, q.2.length = m := ⟨_, rfl⟩
        have hml : m ≤ 100001 := by omega
        have HQG := Lib.hid hg'
        have HML := Lib.hid hm
        by_cases h1 : q.1.last = 1
        · have HV2 : Hid (t0 = (acc ++ q.2, (i : Int) + 1, 0)) := by show _ = _; rw [hV, Pl.readF_over hq h1]
          unfold PlPutR at HP
          rw [h1, hm] at HP
          have HPC := Lib.hid HP
          have hii : (i : Int) + 1 ≤ 9223372036854775807 := by omega
          clear HP hg' hG' hq hm hV h1 hgr
          go_wp2_with (first | (at_builtin; refine wpList_app rfl _ _ 29 rfl w.heap.size 26 p0 .u64 8 Tryz.underlying29 pi pz0 pz1 pz2 v n (pixs acc) rfl HO2.out a m c q.2 rfl HS2.out (by unfold maxLen; omega) (by omega) HB2.out.size ?_; intro v3 w3 hown hgrow hat; have HO3 := Lib.hid hown; have HB3 := Lib.hid (HB2.out.grown hgrow HB2.out.size (fun j ej => (HO2.out.lt j ej).1)); clear hown hgrow hat) | (go_at_call 124; refine HPC.out.mono ?_; rintro e w2 ⟨a, c, sv', rv', rfl, hX2, hS2, _, hF2, hN1, hN2⟩; obtain ⟨z1, z2, z3⟩ := HPZ.out q w2 sv' rv' hX2 hF2 hN1 hN2; have HO2 := Lib.hid z1; have HB2 := Lib.hid z3; have HS2 := Lib.hid hS2; clear hX2 hS2 hF2 hN1 hN2 z1 z2 z3))
          go_returns
          exact rdr_row HV2.out rfl (by have h := HO3.out; unfold pixs; rw [List.map_append]; exact h) (by rw [List.length_append, HNL.out, HML.out]) HB3.out
        by_cases h2 : q.1.last = 2
        · have HV2 : Hid (t0 = ([], 0, q.1.e)) := by show _ = _; rw [hV, Pl.readF_wrong hq h2]
          unfold PlPutR at HP
          rw [h2, hm] at HP
          have HPC := Lib.hid HP
          clear HP hg' hG' hq hm hV h1 h2 hgr
          go_wp2_with (first | (at_builtin; refine wpList_app rfl _ _ 29 rfl w.heap.size 26 p0 .u64 8 Tryz.underlying29 pi pz0 pz1 pz2 v n (pixs acc) rfl HO2.out a m c q.2 rfl HS2.out (by unfold maxLen; omega) (by omega) HB2.out.size ?_; intro v3 w3 hown hgrow hat; have HB3 := Lib.hid (HB2.out.grown hgrow HB2.out.size (fun j ej => (HO2.out.lt j ej).1)); have HX3 := Lib.hid (HX2.out.kept HA2.out hgrow); clear hown hgrow hat) | (go_at_call 124; refine HPC.out.mono ?_; rintro e w2 ⟨a, c, sv', rv', rfl, hX2, hS2, _, hF2, hN1, hN2⟩; obtain ⟨z1, z2, z3⟩ := HPZ.out q w2 sv' rv' hX2 hF2 hN1 hN2; have HO2 := Lib.hid z1; have HA2 := Lib.hid z2; have HB2 := Lib.hid z3; have HS2 := Lib.hid hS2; have HX2 := Lib.hid hX2; clear hX2 hS2 hF2 hN1 hN2 z1 z2 z3) | (go_at_call 147; refine (plError_x HX3.out).mono ?_; rintro e w9 ⟨rfl, rfl⟩))
          go_returns
          exact rdr_nil HV2.out HB3.out
        · have h3 : q.1.last = 0 := by omega
          have HV2 : Hid (t0 = Pl.readF q.1 (i + 1) (acc ++ q.2) ((bytesOf s).drop (i + 1))) := by show _ = _; rw [hV, Pl.readF_more hq h3]
          unfold PlPutR at HP
          rw [h3, hm] at HP
          have HPC := Lib.hid HP
          have H3 := Lib.hid h3
          clear HP hg' hG' hq hm hV h1 h2 h3 hgr
          go_wp2_with (first | (at_builtin; refine wpList_app rfl _ _ 29 rfl w.heap.size 26 p0 .u64 8 Tryz.underlying29 pi pz0 pz1 pz2 v n (pixs acc) rfl HO2.out a m c q.2 rfl HS2.out (by unfold maxLen; omega) (by omega) HB2.out.size ?_; intro v3 w3 hown hgrow hat; have HO3 := Lib.hid hown; have HB3 := Lib.hid (HB2.out.grown hgrow HB2.out.size (fun j ej => (HO2.out.lt j ej).1)); have HX3 := Lib.hid (HX2.out.kept HA2.out hgrow); have HA3 := Lib.hid (ap_app HX2.out HA2.out hat); clear hown hgrow hat) | (go_at_call 124; refine HPC.out.mono ?_; rintro e w2 ⟨a, c, sv', rv', rfl, hX2, hS2, _, hF2, hN1, hN2⟩; obtain ⟨z1, z2, z3⟩ := HPZ.out q w2 sv' rv' hX2 hF2 hN1 hN2; have HO2 := Lib.hid z1; have HA2 := Lib.hid z2; have HB2 := Lib.hid z3; have HS2 := Lib.hid hS2; have HX2 := Lib.hid hX2; clear hX2 hS2 hF2 hN1 hN2 z1 z2 z3))
          go_roundw
          case rel => exact ⟨i + 1, sv', rv', q.1, acc ++ q.2, v3, by omega, by go_num, rfl, HX3.out, H3.out, by rw [List.length_append, HNL.out, HML.out]; have h := HO3.out; unfold pixs; rw [List.map_append]; exact h, HA3.out, by rw [List.length_append, HNL.out]; have := HQG.out; have := HGR.out; omega, HB3.out, HV2.out⟩
          case measure => simp [intOf]; omega
      · have hgl := Pl.fin_grow st
        have hls := Pl.fin_last HG.out
        have HP := plEnd_any wr b sv rv HX.out
        obtain ⟨q, hq⟩ : ∃ q, Pl.fin st = q := ⟨_, rfl⟩
        rw [List.drop_eq_nil_of_le (by rw [bytesOf_length]; omega), Pl.readF_nil hq] at hV
        rw [hq] at HP hgl hls
        obtain ⟨m, hm⟩ : ∃ m, q.2.length = m := ⟨_, rfl⟩
        have hml : m ≤ 100001 := by omega
        have HML := Lib.hid hm
        have his : i = s.size := by omega
        by_cases h2 : q.1.last = 2
        · have HV2 : Hid (t0 = ([], 0, q.1.e)) := by show _ = _; rw [hV, if_pos h2]
          unfold PlPutR at HP
          rw [h2, hm] at HP
          have HPC := Lib.hid HP
          clear HP hgl hls hq hm hV h2 hgr his
          go_wp2_with (first | (go_at_call 75; refine HPC.out.mono ?_; rintro e w2 ⟨a, c, sv', rv', rfl, hX2, hS2, _, hF2, hN1, hN2⟩; obtain ⟨z1, z2, z3⟩ := HPZ.out q w2 sv' rv' hX2 hF2 hN1 hN2; have HB2 := Lib.hid z3; have HX2 := Lib.hid hX2; clear hX2 hS2 hF2 hN1 hN2 z1 z2 z3) | (go_at_call 147; refine (plError_x HX2.out).mono ?_; rintro e w9 ⟨rfl, rfl⟩))
          go_returns
          exact rdr_nil HV2.out HB2.out
        · have h3 : q.1.last = 1 := by omega
          have HV2 : Hid (t0 = (acc ++ q.2, (s.size : Int), 0)) := by show _ = _; rw [hV, if_neg h2, his]
          unfold PlPutR at HP
          rw [h3, hm] at HP
          have HPC := Lib.hid HP
          clear HP hgl hls hq hm hV h2 h3 hgr his
          go_wp2_with (first | (at_builtin; refine wpList_app rfl _ _ 29 rfl w.heap.size 26 p0 .u64 8 Tryz.underlying29 pi pz0 pz1 pz2 v n (pixs acc) rfl HO2.out a m c q.2 rfl HS2.out (by unfold maxLen; omega) (by omega) HB2.out.size ?_; intro v3 w3 hown hgrow hat; have HO3 := Lib.hid hown; have HB3 := Lib.hid (HB2.out.grown hgrow HB2.out.size (fun j ej => (HO2.out.lt j ej).1)); clear hown hgrow hat) | (go_at_call 75; refine HPC.out.mono ?_; rintro e w2 ⟨a, c, sv', rv', rfl, hX2, hS2, _, hF2, hN1, hN2⟩; obtain ⟨z1, z2, z3⟩ := HPZ.out q w2 sv' rv' hX2 hF2 hN1 hN2; have HO2 := Lib.hid z1; have HB2 := Lib.hid z3; have HS2 := Lib.hid hS2; clear hX2 hS2 hF2 hN1 hN2 z1 z2 z3))
          go_returns
          exact rdr_row HV2.out rfl (by have h := HO3.out; unfold pixs; rw [List.map_append]; exact h) (by rw [List.length_append, HNL.out, HML.out]) HB3.out
  · have HN := Lib.hid (plNew_no h hf hm)
    have HV : Hid (Pl.readV h (bytesOf s) = ([], 0, 1)) := Lib.hid (if_neg hm)
    clear hf hm
    unfold agH at HN ⊢
    go_enter Tryz.func103, Tryz.ntmps103
    go_wp2_with (go_at_call 146; refine (HN.out _).mono ?_; rintro e w1 ⟨rfl, hb1⟩; have HB1 := Lib.hid (((Below.refl _ w).alloc (Nat.le_refl _) _).trans (hb1.mono (by simp))))
    go_returns
    exact rdr_nil HV.out HB1.out
end Go.Proofs.YtmnhiagppicegaaGreat

/- Heads of rasters of digits, made of any, by the document; the document's example. Condition: a head's numbers fit. -/
namespace Go.Proofs.YtmnhiagppicegaaGreat
open Go.RowKit
set_option linter.unusedVariables false

theorem may_fit {h : Hd.H} (H : Pl.May h) : Hj.Fit h := by
  have := H.m
  unfold Hj.Fit Nu.I; omega
end Go.Proofs.YtmnhiagppicegaaGreat

/- The document's reader of digits, as a value and in ten cells of a block of the call's own, over any memory; a new one; one that is wrong. No condition. -/
namespace Go.Proofs.YtmnhiagppicegaaGreat
open Go.RowKit
set_option linter.unusedVariables false

/-- a reader by the document, as a value -/
def agR (h : Hd.H) (N : Int) (v1 v2 : Value) (rows last e : Int) : Value := .agg #[.int .i64 h.kd, .int .i64 h.w, .int .i64 h.h, .int .i64 h.m, .int .i64 N, v1, v2, .int .i64 rows, .int .i64 last, .int .i64 e]
/-- ten cells in a block of the call's own -/
def RbC (w : World) (b : Nat) (h : Hd.H) (N : Int) (v1 v2 : Value) (rows last e : Int) : Prop :=
  w.heap[b]? = some (.cells #[.int .i64 h.kd, .int .i64 h.w, .int .i64 h.h, .int .i64 h.m, .int .i64 N, v1, v2, .int .i64 rows, .int .i64 last, .int .i64 e] 183 (0, 0))
section
variable {w w' : World} {b : Nat} {h : Hd.H} {N : Int} {v1 v2 : Value} {rows last e : Int}
theorem RbC.lt (H : RbC w b h N v1 v2 rows last e) : b < w.heap.size := (Array.getElem?_eq_some_iff.1 H).1
theorem RbC.later (H : RbC w b h N v1 v2 rows last e) (hb : Below w.heap.size w w') : RbC w' b h N v1 v2 rows last e := (hb.block b H.lt).trans H
theorem RbC.kept {row : Option Nat} (H : RbC w b h N v1 v2 rows last e) (hg : w.grownBy w' row) (hne : some b ≠ row) : RbC w' b h N v1 v2 rows last e := (hg.block b H.lt hne).trans H
theorem RbC.alloc (H : RbC w b h N v1 v2 rows last e) (o : Obj) : RbC (w.alloc o) b h N v1 v2 rows last e := H.kept (World.grownBy_alloc w o none) (by simp)
theorem RbC.drewN (H : RbC w b h N v1 v2 rows last e) (k : Nat) : RbC (w.drewN k) b h N v1 v2 rows last e := H
theorem RbC.sep {Z : Nat → Prop} (H : RbC w b h N v1 v2 rows last e) (hs : Sep Z w w') (hz : ¬ Z b) : RbC w' b h N v1 v2 rows last e := (hs.block b H.lt hz).trans H
theorem RbC.other (H : RbC w b h N v1 v2 rows last e) {a : Addr} (ha : b ≠ a.block) (y : Value) : RbC (w.setCell a y) b h N v1 v2 rows last e := (Below.heap_setCell w a y b ha).trans H
theorem RbC.fr (H : RbC w b h N v1 v2 rows last e) (o : Nat) : w.frozen? ⟨b, o, none⟩ = false := by have h' : w.heap[b]? = _ := H; simp [World.frozen?, h']
theorem RbC.new (w : World) (h : Hd.H) (N : Int) (v1 v2 : Value) (rows last e : Int) : RbC (w.alloc (.cells #[.int .i64 h.kd, .int .i64 h.w, .int .i64 h.h, .int .i64 h.m, .int .i64 N, v1, v2, .int .i64 rows, .int .i64 last, .int .i64 e] 183)) w.heap.size h N v1 v2 rows last e := World.alloc_heap_new w _
theorem RbC.c0 (H : RbC w b h N v1 v2 rows last e) : w.cell? ⟨b, 0, none⟩ = some (.int .i64 h.kd) := by have h' : w.heap[b]? = _ := H; simp [World.cell?, h']
theorem RbC.c1 (H : RbC w b h N v1 v2 rows last e) : w.cell? ⟨b, 1, none⟩ = some (.int .i64 h.w) := by have h' : w.heap[b]? = _ := H; simp [World.cell?, h']
theorem RbC.c2 (H : RbC w b h N v1 v2 rows last e) : w.cell? ⟨b, 2, none⟩ = some (.int .i64 h.h) := by have h' : w.heap[b]? = _ := H; simp [World.cell?, h']
theorem RbC.c3 (H : RbC w b h N v1 v2 rows last e) : w.cell? ⟨b, 3, none⟩ = some (.int .i64 h.m) := by have h' : w.heap[b]? = _ := H; simp [World.cell?, h']
theorem RbC.c4 (H : RbC w b h N v1 v2 rows last e) : w.cell? ⟨b, 4, none⟩ = some (.int .i64 N) := by have h' : w.heap[b]? = _ := H; simp [World.cell?, h']
theorem RbC.c5 (H : RbC w b h N v1 v2 rows last e) : w.cell? ⟨b, 5, none⟩ = some (v1) := by have h' : w.heap[b]? = _ := H; simp [World.cell?, h']
theorem RbC.c6 (H : RbC w b h N v1 v2 rows last e) : w.cell? ⟨b, 6, none⟩ = some (v2) := by have h' : w.heap[b]? = _ := H; simp [World.cell?, h']
theorem RbC.c7 (H : RbC w b h N v1 v2 rows last e) : w.cell? ⟨b, 7, none⟩ = some (.int .i64 rows) := by have h' : w.heap[b]? = _ := H; simp [World.cell?, h']
theorem RbC.c8 (H : RbC w b h N v1 v2 rows last e) : w.cell? ⟨b, 8, none⟩ = some (.int .i64 last) := by have h' : w.heap[b]? = _ := H; simp [World.cell?, h']
theorem RbC.c9 (H : RbC w b h N v1 v2 rows last e) : w.cell? ⟨b, 9, none⟩ = some (.int .i64 e) := by have h' : w.heap[b]? = _ := H; simp [World.cell?, h']
theorem RbC.put4 (H : RbC w b h N v1 v2 rows last e) (y : Int) : RbC (w.setCell ⟨b, 4, none⟩ (.int .i64 y)) b h y v1 v2 rows last e := by
  have h' : w.heap[b]? = _ := H
  simpa [RbC] using Go.heap_setCell_same w b 4 _ _ (.int .i64 y) h'
theorem RbC.put5 (H : RbC w b h N v1 v2 rows last e) (y : Value) : RbC (w.setCell ⟨b, 5, none⟩ y) b h N y v2 rows last e := by
  have h' : w.heap[b]? = _ := H
  simpa [RbC] using Go.heap_setCell_same w b 5 _ _ y h'
theorem RbC.put6 (H : RbC w b h N v1 v2 rows last e) (y : Value) : RbC (w.setCell ⟨b, 6, none⟩ y) b h N v1 y rows last e := by
  have h' : w.heap[b]? = _ := H
  simpa [RbC] using Go.heap_setCell_same w b 6 _ _ y h'
theorem RbC.put7 (H : RbC w b h N v1 v2 rows last e) (y : Int) : RbC (w.setCell ⟨b, 7, none⟩ (.int .i64 y)) b h N v1 v2 y last e := by
  have h' : w.heap[b]? = _ := H
  simpa [RbC] using Go.heap_setCell_same w b 7 _ _ (.int .i64 y) h'
theorem RbC.put8 (H : RbC w b h N v1 v2 rows last e) (y : Int) : RbC (w.setCell ⟨b, 8, none⟩ (.int .i64 y)) b h N v1 v2 rows y e := by
  have h' : w.heap[b]? = _ := H
  simpa [RbC] using Go.heap_setCell_same w b 8 _ _ (.int .i64 y) h'
theorem RbC.put9 (H : RbC w b h N v1 v2 rows last e) (y : Int) : RbC (w.setCell ⟨b, 9, none⟩ (.int .i64 y)) b h N v1 v2 rows last y := by
  have h' : w.heap[b]? = _ := H
  simpa [RbC] using Go.heap_setCell_same w b 9 _ _ (.int .i64 y) h'
theorem RbC.cells (H : RbC w b h N v1 v2 rows last e) : w.cell? ⟨b, 0, none⟩ = some (.int .i64 h.kd) ∧ w.cell? ⟨b, 1, none⟩ = some (.int .i64 h.w) ∧ w.cell? ⟨b, 2, none⟩ = some (.int .i64 h.h) ∧ w.cell? ⟨b, 3, none⟩ = some (.int .i64 h.m) ∧ w.cell? ⟨b, 4, none⟩ = some (.int .i64 N) ∧ w.cell? ⟨b, 5, none⟩ = some (v1) ∧ w.cell? ⟨b, 6, none⟩ = some (v2) ∧ w.cell? ⟨b, 7, none⟩ = some (.int .i64 rows) ∧ w.cell? ⟨b, 8, none⟩ = some (.int .i64 last) ∧ w.cell? ⟨b, 9, none⟩ = some (.int .i64 e) := ⟨H.c0, H.c1, H.c2, H.c3, H.c4, H.c5, H.c6, H.c7, H.c8, H.c9⟩
end
def Pl.nn (s : Pl.S) : Int := if s.d = true then s.n else -1
/-- v is the document's reader where s says -/
def RfV (w : World) (v : Value) (s : Pl.S) : Prop :=
  ∃ a1 c1 a2 c2, v = agR s.h (Pl.nn s) (.slice a1 s.one.length c1) (.slice a2 s.row.length c2) s.rows s.last s.e ∧ SlK .i64 w a1 s.one.length s.one ∧ SlK .u64 w a2 s.row.length s.row
theorem RfV.later {w w' : World} {v : Value} {s : Pl.S} (h : RfV w v s) (hb : Below w.heap.size w w') : RfV w' v s := by
  obtain ⟨a1, c1, a2, c2, hv, h1, h2⟩ := h
  exact ⟨a1, c1, a2, c2, hv, h1.below hb, h2.below hb⟩
end Go.Proofs.YtmnhiagppicegaaGreat

/- Pixels of a head, made of any numbers, by the document, over any memory. Condition: the head may be, there are not too many. -/
namespace Go.Proofs.YtmnhiagppicegaaGreat
open Go.RowKit
set_option linter.unusedVariables false

theorem one_slk (w : World) (q : IntKind) (x : Int) (t : TypeId) : SlK q (w.alloc (.cells #[.int q x] t)) (some ⟨w.heap.size, 0, none⟩) 1 [x] := by
  refine ⟨rfl, .inr ⟨w.heap.size, 0, rfl, fun i hi => ?_⟩⟩
  obtain rfl : i = 0 := by omega
  rw [World.cell?_alloc_at _ _ _ _ rfl]; rfl
/-- pixels that fit a head -/
def Pl.Fits (G : Hd.H) (l : List Int) : Prop := ∀ p ∈ l, Pq.GoodP p (Hj.chan G) G.m
end Go.Proofs.YtmnhiagppicegaaGreat

/- Plain facts on rasters of digits that are written: their bytes. No condition. -/
namespace Go.Proofs.YtmnhiagppicegaaGreat
open Go.RowKit
set_option linter.unusedVariables false
namespace Pl
/-- the first k samples, a blank behind each but the last one of all -/
def wTk (zs : List Int) : Nat → List Int
  | 0 => []
  | k + 1 => wTk zs k ++ Nu.decV (zs.getD k 0) ++ (if k + 1 < zs.length then [32] else [])
def wLn (G : Hd.H) (i : Nat) : Bool := decide (1 < G.kd) || ((i : Int) % G.w == G.w - 1) || ((i : Int) % G.w % 70 == 69)
/-- the first i pixels -/
def wAll (G : Hd.H) (l : List Int) : Nat → List Int
  | 0 => []
  | i + 1 => wAll G l i ++ wTk (Pq.Px.smp (l.getD i 0)) (Pq.Px.smp (l.getD i 0)).length ++ (if wLn G i = true then [10] else [])
theorem wTk_len {zs : List Int} (h : ∀ s ∈ zs, Nu.I s) : ∀ k, k ≤ zs.length → (wTk zs k).length ≤ 67 * k
  | 0, _ => by simp [wTk]
  | k + 1, hk => by
    have h1 := wTk_len h k (by omega)
    have h2 := Nu.decV_len (h (zs.getD k 0) (getD_mem (by omega)))
    simp only [wTk, List.length_append]
    split
    · rw [List.length_singleton]; omega
    · rw [List.length_nil]; omega
theorem goodU {G : Hd.H} {l : List Int} (hl : Fits G l) : ∀ p ∈ l, Pq.Px.U p := fun p hp => Pq.goodU (hl p hp)
theorem wAll_len {G : Hd.H} {l : List Int} (hl : ∀ p ∈ l, Pq.Px.U p) : ∀ i, i ≤ l.length → (wAll G l i).length ≤ 202 * i
  | 0, _ => by simp [wAll]
  | i + 1, hi => by
    have h1 := wAll_len (G := G) hl i (by omega)
    have hU := hl (l.getD i 0) (getD_mem (by omega))
    have h2 := wTk_len (smp_I hU) _ (Nat.le_refl _)
    have h3 := (smp_in hU).1
    simp only [wAll, List.length_append]
    split
    · rw [List.length_singleton]; omega
    · rw [List.length_nil]; omega
theorem fits_true {p c m : Int} (h : Pq.GoodP p c m) (m1 : 1 ≤ m) (m2 : m ≤ 65535) : Pq.Px.fitsV p c m = true := by
  rcases h with ⟨rfl, x, y, z, h3, hx, hy, hz⟩ | ⟨rfl, x, h1, hx⟩
  · rw [Pq.Px.fitsV3_all h3 hx hy hz]
    simp [Pq.Px.formatV, m1, m2]
  · rw [Pq.Px.fitsV1_all h1 hx]
    simp [Pq.Px.formatV, m1, m2]
/-- do all pixels fit -/
def fitAll (G : Hd.H) (l : List Int) : Bool := l.all fun p => Pq.Px.fitsV p (Hj.chan G) G.m
/-- a raster's text, or none -/
def wV (G : Hd.H) (l : List Int) : Value := if fitAll G l = true then .tuple #[.string (strOfNums (wAll G l l.length)), .int .i64 0] else .tuple #[.string ⟨#[]⟩, .int .i64 1]
theorem fitAll_no {G : Hd.H} {l : List Int} {k : Nat} (hk : k < l.length) (h : Pq.Px.fitsV (l.getD k 0) (Hj.chan G) G.m = false) : fitAll G l = false := by
  unfold fitAll
  rw [List.all_eq_false]
  exact ⟨_, getD_mem hk, by rw [h]; decide⟩
theorem fitAll_yes {G : Hd.H} {l : List Int} (h : ∀ j, j < l.length → Pq.Px.fitsV (l.getD j 0) (Hj.chan G) G.m = true) : fitAll G l = true := by
  unfold fitAll
  rw [List.all_eq_true]
  intro p hp
  obtain ⟨j, hj, rfl⟩ := List.mem_iff_getElem.1 hp
  have := h j hj
  rwa [List.getD_eq_getElem?_getD, List.getElem?_eq_getElem hj] at this
theorem wAll_succ (G : Hd.H) (l : List Int) (i : Nat) : wAll G l (i + 1) = wAll G l i ++ wTk (Pq.Px.smp (l.getD i 0)) (Pq.Px.smp (l.getD i 0)).length ++ (if wLn G i = true then [10] else []) := rfl
theorem wTk_succ (zs : List Int) (k : Nat) : wTk zs (k + 1) = wTk zs k ++ Nu.decV (zs.getD k 0) ++ (if k + 1 < zs.length then [32] else []) := rfl
theorem ln_yes1 {G : Hd.H} {i : Nat} (h : ¬ G.kd ≤ 1) : wLn G i = true := by
  have : 1 < G.kd := by omega
  simp [wLn, this]
theorem ln_yes2 {G : Hd.H} {i gw : Nat} (hg : G.w = (gw : Int)) (h : (i : Int) % (gw : Int) = (gw : Int) - 1) : wLn G i = true := by
  simp [wLn, hg, h]
theorem ln_yes3 {G : Hd.H} {i gw : Nat} (hg : G.w = (gw : Int)) (h : (1 < G.kd ∨ ((i : Int) % (gw : Int) == (gw : Int) - 1) = true) ∨ ((i : Int) % (gw : Int) % 70 == 69) = true) : wLn G i = true := by
  unfold wLn; rw [hg]
  rcases h with (h | h) | h
  · simp [h]
  · rw [h]; simp
  · rw [h]; simp
theorem ln_no {G : Hd.H} {i gw : Nat} (hg : G.w = (gw : Int)) (h : (G.kd ≤ 1 ∧ ((i : Int) % (gw : Int) == (gw : Int) - 1) = false) ∧ ((i : Int) % (gw : Int) % 70 == 69) = false) : wLn G i = false := by
  have h1 : ¬ 1 < G.kd := by omega
  unfold wLn; rw [hg, h.1.2, h.2]; simp [h1]
theorem str32 : (⟨#[32]⟩ : ByteArray) = strOfNums [32] := rfl
theorem str10 : (⟨#[10]⟩ : ByteArray) = strOfNums [10] := rfl
end Pl
end Go.Proofs.YtmnhiagppicegaaGreat

/- Plain facts on rasters of digits that are read: samples, with blanks behind. No condition. -/
namespace Go.Proofs.YtmnhiagppicegaaGreat
open Go.RowKit
set_option linter.unusedVariables false
namespace Pl
def putS (s : S) (t : List Int) : S := t.foldl (fun s c => (put s c).1) s
/-- told t it is s', and told these pixels -/
def Run (s : S) (t : List Int) (s' : S) (out : List Int) : Prop :=
  putS s t = s' ∧ ∀ (i : Nat) (acc cs : List Int), readF s i acc (t ++ cs) = readF s' (i + t.length) (acc ++ out) cs
theorem Run.none (s : S) : Run s [] s [] := ⟨rfl, fun i acc cs => by simp⟩
theorem Run.one {s : S} {c : Int} {q : S × List Int} (hq : put s c = q) (h : q.1.last = 0) : Run s [c] q.1 q.2 :=
  ⟨by simp [putS, hq], fun i acc cs => by rw [List.singleton_append, readF_more hq h]; rfl⟩
theorem Run.app {s s' s2 : S} {t t' o o' : List Int} (h1 : Run s t s' o) (h2 : Run s' t' s2 o') : Run s (t ++ t') s2 (o ++ o') := by
  refine ⟨?_, fun i acc cs => ?_⟩
  · have e1 := h1.1
    have e2 := h2.1
    unfold putS at *
    rw [List.foldl_append, e1, e2]
  · rw [List.append_assoc, h1.2, h2.2, List.append_assoc, List.length_append, Nat.add_assoc]
/-- a sample may come -/
def Rdy (s : S) : Prop := s.last = 0 ∧ s.d = false ∧ s.n = 0
theorem rdy_sample {s : S} {z : Int} (h : (sample s z).1.last = 0) : Rdy (sample s z).1 := by
  unfold sample at *
  split
  · exact ⟨rfl, rfl, rfl⟩
  · rename_i h1
    rw [if_neg h1] at h
    split
    · exact ⟨rfl, rfl, rfl⟩
    · rename_i h2
      rw [if_neg h2] at h
      exact ⟨h, rfl, rfl⟩
theorem put_blank {s : S} {c : Int} (hr : Rdy s) (hc : Tk.blank c = true) : put s c = (s, []) := by
  unfold put
  rw [if_neg (by simp [hr.1]), if_pos hc, if_neg (by simp [hr.2.1])]
theorem run_blank {s : S} {c : Int} (hr : Rdy s) (hc : Tk.blank c = true) : Run s [c] s [] := Run.one (put_blank hr hc) hr.1
theorem run_blanks {s : S} (hr : Rdy s) : ∀ es : List Int, (∀ e ∈ es, Tk.blank e = true) → Run s es s []
  | [], _ => Run.none s
  | e :: es, h => by
    have h1 := (run_blank hr (h e (List.mem_cons_self ..))).app (run_blanks hr es fun x hx => h x (List.mem_cons_of_mem _ hx))
    simpa using h1
theorem digit_not {c : Int} (h : 48 ≤ c ∧ c ≤ 57) : Tk.blank c = false := by unfold Tk.blank; simp; omega
theorem run_digits {v : Int} : ∀ (xs : List Int) (s : S), s.last = 0 → ¬ s.h.kd = 1 → xs ≠ [] → Nu.parseF s.h.m s.n xs = (v, 0) → Run s xs (digit s v) []
  | [], s, _, _, h, _ => absurd rfl h
  | c :: cs, s, h0, hk, _, hp => by
    unfold Nu.parseF at hp
    by_cases he : (Nu.stepV s.n c s.h.m).2 = 0
    · rw [if_pos he] at hp
      have hd := Tk.step_digit he
      have hq : put s c = (digit s (Nu.stepV s.n c s.h.m).1, []) := by
        unfold put
        rw [if_neg (by simp [h0]), if_neg (by rw [digit_not hd]; simp), if_neg hk, if_pos he]
      have h1 := Run.one hq rfl
      cases cs with
      | nil =>
        unfold Nu.parseF at hp
        have : (Nu.stepV s.n c s.h.m).1 = v := by injection hp
        rw [this] at h1
        exact h1
      | cons c2 cs =>
        have h2 := run_digits (c2 :: cs) (digit s (Nu.stepV s.n c s.h.m).1) rfl hk (by simp) hp
        exact h1.app h2
    · rw [if_neg he] at hp
      injection hp with e1 e2
      exact absurd e2 he
/-- a sample's bytes, with the blank that ends it -/
def It (kd m z : Int) (bs : List Int) : Prop := 0 ≤ z ∧ z ≤ m ∧ ((kd = 1 ∧ z ≤ 1 ∧ bs = [48 + z]) ∨ (¬ kd = 1 ∧ ∃ c, Tk.blank c = true ∧ bs = Nu.decV z ++ [c]))
/-- what a sample does, told -/
theorem it_last {s : S} {z : Int} {bs : List Int} (hr : Rdy s) (hi : It s.h.kd s.h.m z bs) :
    ∃ s1 pre c, bs = pre ++ [c] ∧ Run s pre s1 [] ∧ put s1 c = sample s z := by
  obtain ⟨z0, z1, ⟨hk, hz, rfl⟩ | ⟨hk, c, hc, rfl⟩⟩ := hi
  · refine ⟨s, [], 48 + z, rfl, Run.none s, ?_⟩
    unfold put
    rw [if_neg (by simp [hr.1]), if_neg (by rw [digit_not (by omega)]; simp), if_pos hk, if_pos (by omega), show 48 + z - 48 = z by omega]
  · have hp := Nu.parse_dig s.h.m (by omega) z z0
    rw [if_pos z1, ← Nu.decV_up z0] at hp
    have hp : Nu.parseF s.h.m s.n (Nu.decV z) = (z, 0) := by rw [hr.2.2]; exact hp
    refine ⟨digit s z, Nu.decV z, c, rfl, run_digits _ s hr.1 hk (Nu.decV_ne z0) hp, ?_⟩
    show put (digit s z) c = sample s z
    unfold put
    rw [if_neg (by simp [digit]), if_pos hc, if_pos (show (digit s z).d = true from rfl)]
    rfl
theorem it_more {s : S} {z : Int} {bs : List Int} (hr : Rdy s) (hi : It s.h.kd s.h.m z bs) (h : (sample s z).1.last = 0) : Run s bs (sample s z).1 (sample s z).2 := by
  obtain ⟨s1, pre, c, rfl, h1, h2⟩ := it_last hr hi
  have := h1.app (Run.one h2 h)
  simpa using this
theorem it_over {s : S} {z : Int} {bs : List Int} (hr : Rdy s) (hi : It s.h.kd s.h.m z bs) (h : (sample s z).1.last = 1) (i : Nat) (acc cs : List Int) : readF s i acc (bs ++ cs) = (acc ++ (sample s z).2, ((i + bs.length : Nat) : Int), 0) := by
  obtain ⟨s1, pre, c, rfl, h1, h2⟩ := it_last hr hi
  rw [List.append_assoc, h1.2, List.singleton_append, readF_over h2 h]
  simp; omega
/-- samples, each with at most b blanks more behind -/
def Sq (kd m : Int) (b : Nat) : List Int → List Int → Prop
  | [], t => t = []
  | z :: zs, t => ∃ bs es t', t = bs ++ es ++ t' ∧ It kd m z bs ∧ (∀ e ∈ es, Tk.blank e = true) ∧ es.length ≤ b ∧ Sq kd m b zs t'
theorem Sq.app {kd m : Int} {b : Nat} : ∀ {zs ys t u : List Int}, Sq kd m b zs t → Sq kd m b ys u → Sq kd m b (zs ++ ys) (t ++ u)
  | [], ys, t, u, h, k => by unfold Sq at h; subst h; simpa using k
  | z :: zs, ys, t, u, h, k => by
    obtain ⟨bs, es, t', rfl, h1, h2, h3, h4⟩ := h
    exact ⟨bs, es, t' ++ u, by simp, h1, h2, h3, h4.app k⟩
def tell (s : S) : List Int → S × List Int
  | [] => (s, [])
  | z :: zs => ((tell (sample s z).1 zs).1, (sample s z).2 ++ (tell (sample s z).1 zs).2)
/-- it goes on behind each -/
def Live (s : S) : List Int → Prop
  | [] => True
  | z :: zs => (sample s z).1.last = 0 ∧ Live (sample s z).1 zs
theorem tell_app (s : S) : ∀ (zs ys : List Int), tell s (zs ++ ys) = ((tell (tell s zs).1 ys).1, (tell s zs).2 ++ (tell (tell s zs).1 ys).2)
  | [], ys => by simp [tell]
  | z :: zs, ys => by
    show ((tell (sample s z).1 (zs ++ ys)).1, (sample s z).2 ++ (tell (sample s z).1 (zs ++ ys)).2) = ((tell (tell (sample s z).1 zs).1 ys).1, (sample s z).2 ++ (tell (sample s z).1 zs).2 ++ (tell (tell (sample s z).1 zs).1 ys).2)
    rw [tell_app (sample s z).1 zs ys, List.append_assoc]
theorem live_app (s : S) : ∀ (zs ys : List Int), Live s zs → Live (tell s zs).1 ys → Live s (zs ++ ys)
  | [], ys, _, k => k
  | z :: zs, ys, h, k => ⟨h.1, live_app (sample s z).1 zs ys h.2 k⟩
theorem sq_run {b : Nat} : ∀ (zs t : List Int) (s : S), Rdy s → Sq s.h.kd s.h.m b zs t → Live s zs → Run s t (tell s zs).1 (tell s zs).2 ∧ Rdy (tell s zs).1 ∧ (tell s zs).1.h = s.h
  | [], t, s, hr, hq, _ => by unfold Sq at hq; subst hq; exact ⟨Run.none s, hr, rfl⟩
  | z :: zs, t, s, hr, hq, hl => by
    obtain ⟨bs, es, t', rfl, h1, h2, h3, h4⟩ := hq
    have hr2 := rdy_sample hl.1
    have hh := sample_h s z
    have ih := sq_run zs t' (sample s z).1 hr2 (by rw [hh]; exact h4) hl.2
    have := ((it_more hr h1 hl.1).app (run_blanks hr2 es h2)).app ih.1
    refine ⟨?_, ih.2.1, ih.2.2.trans hh⟩
    simpa [tell] using this
theorem sq_over {b : Nat} {zs t : List Int} {z : Int} {s : S} (hr : Rdy s) (hq : Sq s.h.kd s.h.m b (zs ++ [z]) t) (hl : Live s zs) (h1 : (sample (tell s zs).1 z).1.last = 1) (i : Nat) (acc cs : List Int) :
    ∃ n : Nat, readF s i acc (t ++ cs) = (acc ++ (tell s (zs ++ [z])).2, (n : Int), 0) ∧ n ≤ i + t.length ∧ i + t.length ≤ n + b := by
  obtain ⟨t1, t2, rfl, q1, q2⟩ : ∃ t1 t2, t = t1 ++ t2 ∧ Sq s.h.kd s.h.m b zs t1 ∧ Sq s.h.kd s.h.m b [z] t2 := by
    clear hl h1 hr
    generalize s.h.kd = kd at hq
    generalize s.h.m = m at hq
    induction zs generalizing t with
    | nil => exact ⟨[], t, rfl, rfl, hq⟩
    | cons y zs ih =>
      obtain ⟨bs, es, t', rfl, k1, k2, k3, k4⟩ := hq
      obtain ⟨t1, t2, rfl, q1, q2⟩ := ih k4
      exact ⟨bs ++ es ++ t1, t2, by simp, ⟨bs, es, t1, rfl, k1, k2, k3, q1⟩, q2⟩
  obtain ⟨r1, r2, r3⟩ := sq_run zs t1 s hr q1 hl
  obtain ⟨bs, es, t', rfl, k1, k2, k3, k4⟩ := q2
  unfold Sq at k4
  subst k4
  rw [← r3] at k1
  refine ⟨i + t1.length + bs.length, ?_, by simp; omega, by simp; omega⟩
  rw [show t1 ++ (bs ++ es ++ []) ++ cs = t1 ++ (bs ++ (es ++ cs)) by simp, r1.2, it_over r2 k1 h1, tell_app]
  simp [tell]
end Pl
end Go.Proofs.YtmnhiagppicegaaGreat

/- Plain facts on rasters of digits: what is written is read as it was, with blanks between, and is too short where it is cut off. No condition. -/
namespace Go.Proofs.YtmnhiagppicegaaGreat
open Go.RowKit
set_option linter.unusedVariables false
namespace Pl
theorem chan13 {G : Hd.H} (hm : May G) : (G.kd = 3 ∧ Hj.chan G = 3) ∨ (G.kd ≠ 3 ∧ Hj.chan G = 1) := by
  have := hm.m
  unfold Hj.chan
  by_cases h : G.kd = 3
  · exact .inl ⟨h, if_pos (.inl h)⟩
  · exact .inr ⟨h, if_neg (by omega)⟩
/-- one pixel more -/
theorem pix_tell {s : S} {p : Int} (hm : May s.h) (hr : Rdy s) (ho : s.one = []) (hp : Pq.GoodP p (Hj.chan s.h) s.h.m) :
    ∃ ys y, Pq.Px.smp p = ys ++ [y] ∧ Live s ys ∧ (tell s ys).2 = [] ∧
      sample (tell s ys).1 y = if (s.row.length : Int) + 1 < s.h.w then (⟨s.h, 0, false, [], s.row ++ [p], s.rows, 0, 0⟩, []) else (⟨s.h, 0, false, [], [], s.rows + 1, if s.rows + 1 = s.h.h then 1 else 0, 0⟩, s.row ++ [p]) := by
  have hmm := hm.m
  rcases hp with ⟨hc, x, y, z, h3, hx, hy, hz⟩ | ⟨hc, x, h1, hx⟩
  · obtain ⟨e0, a1, a2, a3, a4, a5, a6⟩ := id h3
    refine ⟨[x, y], z, Pq.Px.smp3 h3, ?_, ?_, ?_⟩
    · refine ⟨?_, ?_, trivial⟩
      · unfold sample; rw [if_pos (by rw [ho, hc]; decide)]; rfl
      · have e1 : sample s x = (more s x, []) := by unfold sample; rw [if_pos (by rw [ho, hc]; decide)]
        rw [e1]
        unfold sample; rw [if_pos (by show (((s.one ++ [x]).length : Nat) : Int) + 1 < Hj.chan s.h; rw [ho, hc]; simp)]; rfl
    · have e1 : sample s x = (more s x, []) := by unfold sample; rw [if_pos (by rw [ho, hc]; decide)]
      have e2 : sample (more s x) y = (more (more s x) y, []) := by unfold sample; rw [if_pos (by show (((s.one ++ [x]).length : Nat) : Int) + 1 < Hj.chan s.h; rw [ho, hc]; simp)]
      simp [tell, e1, e2]
    · have e1 : sample s x = (more s x, []) := by unfold sample; rw [if_pos (by rw [ho, hc]; decide)]
      have e2 : sample (more s x) y = (more (more s x) y, []) := by unfold sample; rw [if_pos (by show (((s.one ++ [x]).length : Nat) : Int) + 1 < Hj.chan s.h; rw [ho, hc]; simp)]
      have e3 : (tell s [x, y]).1 = more (more s x) y := by simp [tell, e1, e2]
      have e4 : pix (more (more s x) y) z = p := by
        show (Pq.Px.packV (s.one ++ [x] ++ [y] ++ [z])).1 = p
        rw [ho]
        show (Pq.Px.packV [x, y, z]).1 = p
        rw [Pq.Px.packV3 a1 a2 a3 a4 a5 a6, e0]
      rw [e3]
      unfold sample
      rw [if_neg (by show ¬ (((s.one ++ [x] ++ [y]).length : Nat) : Int) + 1 < Hj.chan s.h; rw [ho, hc]; simp)]
      show (if (s.row.length : Int) + 1 < s.h.w then _ else _) = _
      split
      · unfold pixel; rw [e4]; rfl
      · unfold line; rw [e4]; rfl
  · obtain ⟨e0, a1, a2⟩ := id h1
    refine ⟨[], x, Pq.Px.smp1 h1, trivial, rfl, ?_⟩
    have e4 : pix s x = p := by
      unfold pix
      rw [ho]
      show (Pq.Px.packV [x]).1 = p
      rw [Pq.Px.packV1 a1 a2, e0]
    show sample s x = _
    unfold sample
    rw [if_neg (by rw [ho, hc]; decide)]
    split
    · unfold pixel; rw [e4]
    · unfold line; rw [e4]
theorem kd1_m {G : Hd.H} (hm : May G) (h : G.kd = 1) : G.m = 1 := by
  have h1 := hm.1
  unfold Hd.May at h1
  obtain ⟨-, -, -, -, h9⟩ := h1
  exact h9 (by unfold Hd.bits; simp [h])
/-- a pixel's text -/
theorem sq_pix {G : Hd.H} {p : Int} {i : Nat} (hm : May G) (hp : Pq.GoodP p (Hj.chan G) G.m) : Sq G.kd G.m 1 (Pq.Px.smp p) (wTk (Pq.Px.smp p) (Pq.Px.smp p).length ++ if wLn G i = true then [10] else []) := by
  have hmm := hm.m
  have b10 : Tk.blank 10 = true := by decide
  have b32 : Tk.blank 32 = true := by decide
  have hb : ∀ x : List Int, x = [10] ∨ x = [] → (∀ e ∈ x, Tk.blank e = true) ∧ x.length ≤ 1 := by
    rintro x (rfl | rfl)
    · exact ⟨fun e he => by rw [List.mem_singleton.1 he]; exact b10, Nat.le_refl _⟩
    · exact ⟨fun e he => (by cases he), Nat.zero_le _⟩
  have hk := chan13 hm
  rcases hp with ⟨hc, x, y, z, h3, hx, hy, hz⟩ | ⟨hc, x, h1, hx⟩
  · obtain ⟨e0, a1, a2, a3, a4, a5, a6⟩ := id h3
    have hk3 : G.kd = 3 := by omega
    have hw : wLn G i = true := by simp [wLn, hk3]
    rw [Pq.Px.smp3 h3, hw, if_pos rfl]
    have hn : ¬ G.kd = 1 := by omega
    refine ⟨Nu.decV x ++ [32], [], Nu.decV y ++ [32] ++ (Nu.decV z ++ [10]), ?_, ⟨a1, hx, .inr ⟨hn, 32, b32, rfl⟩⟩, (fun e he => by cases he), Nat.zero_le _, ?_⟩
    · simp [wTk]
    · refine ⟨Nu.decV y ++ [32], [], Nu.decV z ++ [10], by simp, ⟨a3, hy, .inr ⟨hn, 32, b32, rfl⟩⟩, (fun e he => by cases he), Nat.zero_le _, ?_⟩
      exact ⟨Nu.decV z ++ [10], [], [], by simp, ⟨a5, hz, .inr ⟨hn, 10, b10, rfl⟩⟩, (fun e he => by cases he), Nat.zero_le _, rfl⟩
  · obtain ⟨e0, a1, a2⟩ := id h1
    rw [Pq.Px.smp1 h1]
    have hT : wTk [x] ([x] : List Int).length = Nu.decV x := by simp [wTk]
    rw [hT]
    by_cases h : G.kd = 1
    · have hm1 := kd1_m hm h
      refine ⟨[48 + x], if wLn G i = true then [10] else [], [], ?_, ⟨a1, hx, .inl ⟨h, by omega, rfl⟩⟩, (hb _ ?_).1, (hb _ ?_).2, rfl⟩
      · rw [Nu.decV_pos a1 (by omega), List.append_nil]
      · split
        · exact .inl rfl
        · exact .inr rfl
      · split
        · exact .inl rfl
        · exact .inr rfl
    · have hw : wLn G i = true := by
        have : 1 < G.kd := by omega
        simp [wLn, this]
      rw [hw, if_pos rfl]
      exact ⟨Nu.decV x ++ [10], [], [], by simp, ⟨a1, hx, .inr ⟨h, 10, b10, rfl⟩⟩, (fun e he => by cases he), Nat.zero_le _, rfl⟩
theorem smps_succ (l : List Int) (i : Nat) (h : i < l.length) : (l.take (i + 1)).flatMap Pq.Px.smp = (l.take i).flatMap Pq.Px.smp ++ Pq.Px.smp (l.getD i 0) := by
  rw [take_getD l i h, List.flatMap_append]
  simp
theorem sq_all {G : Hd.H} {l : List Int} (hm : May G) (hl : Fits G l) : ∀ i, i ≤ l.length → Sq G.kd G.m 1 ((l.take i).flatMap Pq.Px.smp) (wAll G l i)
  | 0, _ => by simp [wAll, Sq]
  | i + 1, hi => by
    rw [smps_succ l i (by omega), wAll_succ, List.append_assoc]
    exact (sq_all hm hl i (by omega)).app (sq_pix hm (hl _ (getD_mem (by omega))))
/-- behind i pixels -/
def pst (G : Hd.H) (l : List Int) (W i : Nat) : S := ⟨G, 0, false, [], (l.drop (i / W * W)).take (i % W), ((i / W : Nat) : Int), 0, 0⟩
theorem dm_lt {i W : Nat} (h : i % W + 1 < W) : (i + 1) / W = i / W ∧ (i + 1) % W = i % W + 1 := by
  have h0 := Nat.div_add_mod i W
  have hW : 0 < W := by omega
  have e : i + 1 = W * (i / W) + (i % W + 1) := by omega
  constructor
  · rw [e, Nat.mul_add_div hW, Nat.div_eq_of_lt h, Nat.add_zero]
  · rw [e, Nat.mul_add_mod, Nat.mod_eq_of_lt h]
theorem dm_eq {i W : Nat} (h : i % W + 1 = W) : (i + 1) / W = i / W + 1 ∧ (i + 1) % W = 0 := by
  have h0 := Nat.div_add_mod i W
  have hW : 0 < W := by omega
  have e : i + 1 = W * (i / W + 1) := by rw [Nat.mul_add, Nat.mul_one]; omega
  constructor
  · rw [e, Nat.mul_div_cancel_left _ hW]
  · rw [e, Nat.mul_mod_right]
theorem take_part {l : List Int} {i a r : Nat} (hi : i < l.length) (h : a + r = i) : (l.drop a).take r ++ [l.getD i 0] = (l.drop a).take (r + 1) := by
  rw [List.take_add_one, List.getElem?_drop, h, List.getD_eq_getElem?_getD, List.getElem?_eq_getElem hi]
  rfl
theorem take_join (l : List Int) (a n : Nat) : l.take a ++ (l.drop a).take n = l.take (a + n) := by
  rw [List.take_add]
section
variable {G : Hd.H} {l : List Int} {W H : Nat} (hm : May G) (hl : Fits G l) (hW : G.w = (W : Int)) (hH : G.h = (H : Int)) (hN : l.length = W * H)
include hm hl hW hH hN
theorem tell_pix {i : Nat} (hi : i < l.length) : ∃ ys y, Pq.Px.smp (l.getD i 0) = ys ++ [y] ∧ Live (pst G l W i) ys ∧ (tell (pst G l W i) ys).2 = [] ∧
    (i + 1 < l.length → (sample (tell (pst G l W i) ys).1 y).1 = pst G l W (i + 1)) ∧ (i + 1 = l.length → (sample (tell (pst G l W i) ys).1 y).1.last = 1) ∧ l.take (i / W * W) ++ (sample (tell (pst G l W i) ys).1 y).2 = l.take ((i + 1) / W * W) := by
  have hmm := hm.m
  have h0 := Nat.div_add_mod i W
  have hW0 : 0 < W := by omega
  have hr : i % W < W := Nat.mod_lt _ hW0
  have hc : i / W * W + i % W = i := by rw [Nat.mul_comm]; exact h0
  have hrow : (pst G l W i).row.length = i % W := by show ((l.drop (i / W * W)).take (i % W)).length = _; rw [List.length_take, List.length_drop]; omega
  obtain ⟨ys, y, h1, h2, h3, h4⟩ := pix_tell (s := pst G l W i) hm ⟨rfl, rfl, rfl⟩ rfl (hl _ (getD_mem hi))
  refine ⟨ys, y, h1, h2, h3, ?_⟩
  rw [hrow, show (pst G l W i).h.w = (W : Int) from hW, show (pst G l W i).h.h = (H : Int) from hH] at h4
  have hp := take_part hi hc
  by_cases hx : i % W + 1 < W
  · rw [if_pos (by omega)] at h4
    rw [h4]
    obtain ⟨d1, d2⟩ := dm_lt hx
    refine ⟨fun _ => ?_, fun he => ?_, by simp [d1]⟩
    · unfold pst
      rw [d1, d2, ← hp]
    · exfalso
      have := Nat.mul_mod_right W H
      rw [← hN, ← he, d2] at this
      omega
  · rw [if_neg (by omega)] at h4
    rw [h4]
    have hx1 : i % W + 1 = W := by omega
    obtain ⟨d1, d2⟩ := dm_eq hx1
    have hq : W * (i / W + 1) = i + 1 := by rw [Nat.mul_add, Nat.mul_one]; omega
    refine ⟨fun hlt => ?_, fun he => ?_, ?_⟩
    · have : i / W + 1 < H := by
        apply Nat.lt_of_mul_lt_mul_left (a := W)
        rw [hq, ← hN]; exact hlt
      unfold pst
      simp only [d1, d2]
      rw [if_neg (by omega)]
      simp
    · have : i / W + 1 = H := by
        apply Nat.eq_of_mul_eq_mul_left hW0
        rw [hq, ← hN]; exact he
      show (if (pst G l W i).rows + 1 = (H : Int) then (1 : Int) else 0) = 1
      rw [if_pos (by show ((i / W : Nat) : Int) + 1 = (H : Int); omega)]
    · show l.take (i / W * W) ++ ((l.drop (i / W * W)).take (i % W) ++ [l.getD i 0]) = _
      rw [hp, hx1, take_join, d1, Nat.add_mul, Nat.one_mul]
theorem tell_all : ∀ i, i < l.length → tell (new G) ((l.take i).flatMap Pq.Px.smp) = (pst G l W i, l.take (i / W * W)) ∧ Live (new G) ((l.take i).flatMap Pq.Px.smp)
  | 0, _ => by
    refine ⟨?_, trivial⟩
    simp [tell, pst, new]
  | i + 1, hi => by
    obtain ⟨h1, h2⟩ := tell_all i (by omega)
    obtain ⟨ys, y, k1, k2, k3, k4, k5, k6⟩ := tell_pix hm hl hW hH hN (i := i) (by omega)
    rw [smps_succ l i (by omega), k1]
    have k4 := k4 hi
    constructor
    · rw [tell_app, h1]
      simp only []
      rw [tell_app, k3]
      simp only [tell, List.append_nil, List.nil_append]
      rw [k4, k6]
    · refine live_app _ _ _ h2 ?_
      rw [h1]
      refine live_app _ _ _ k2 ⟨?_, trivial⟩
      rw [k4]; rfl
theorem tell_end : ∃ zs z, l.flatMap Pq.Px.smp = zs ++ [z] ∧ Live (new G) zs ∧ (sample (tell (new G) zs).1 z).1.last = 1 ∧ (tell (new G) (zs ++ [z])).2 = l := by
  have hmm := hm.m
  have hpos : 0 < l.length := by rw [hN]; exact Nat.mul_pos (by omega) (by omega)
  obtain ⟨i, hi⟩ : ∃ i, l.length = i + 1 := ⟨l.length - 1, by omega⟩
  obtain ⟨h1, h2⟩ := tell_all hm hl hW hH hN i (by omega)
  obtain ⟨ys, y, k1, k2, k3, k4, k5, k6⟩ := tell_pix hm hl hW hH hN (i := i) (by omega)
  have hs := smps_succ l i (by omega)
  rw [List.take_of_length_le (show l.length ≤ i + 1 by omega), k1, ← List.append_assoc] at hs
  have he : (i + 1) / W * W = l.length := by rw [← hi, hN, Nat.mul_div_cancel_left _ (by omega), Nat.mul_comm]
  rw [he, List.take_length] at k6
  refine ⟨_, y, hs, ?_, ?_, ?_⟩
  · refine live_app _ _ _ h2 ?_
    rw [h1]; exact k2
  · rw [tell_app, h1]; exact k5 hi.symm
  · rw [tell_app, tell_app, h1]
    simp only []
    rw [k3]
    simp only [tell, List.append_nil]
    exact k6
/-- what has all samples, is read -/
theorem read_all {b : Nat} {es t : List Int} (he : ∀ e ∈ es, Tk.blank e = true) (hq : Sq G.kd G.m b (l.flatMap Pq.Px.smp) t) :
    ∃ n : Nat, readV G (es ++ t) = (l, (n : Int), 0) ∧ n ≤ es.length + t.length ∧ es.length + t.length ≤ n + b := by
  obtain ⟨zs, z, h1, h2, h3, h4⟩ := tell_end hm hl hW hH hN
  rw [h1] at hq
  have hr : Rdy (new G) := ⟨rfl, rfl, rfl⟩
  obtain ⟨n, k1, k2, k3⟩ := sq_over (s := new G) hr hq h2 h3 (0 + es.length) ([] ++ []) []
  refine ⟨n, ?_, by omega, by omega⟩
  unfold readV
  rw [if_pos hm, (run_blanks hr es he).2]
  simp only [List.append_nil, List.nil_append] at k1 ⊢
  rw [k1, h4]
end
end Pl
end Go.Proofs.YtmnhiagppicegaaGreat

/- Pixels of a head, made of any numbers, by the document, over any memory. Condition: the head may be, there are not too many. -/
namespace Go.Proofs.YtmnhiagppicegaaGreat
open Go.RowKit
end Go.Proofs.YtmnhiagppicegaaGreat

/- A raster of digits written by the document, over any memory. Condition: the head may be, there are as many pixels as it has, and not too many. -/
namespace Go.Proofs.YtmnhiagppicegaaGreat
open Go.RowKit
set_option linter.unusedVariables false

set_option maxRecDepth 100000 in
set_option maxHeartbeats 8000000 in
theorem refWriteP_any (a : Option Addr) (n cap : Nat) (l : List Int) (G : Hd.H) (hf : Hj.Fit G) (hm : Pl.May G) (hn : n ≤ 1000) (hN : G.w * G.h = (n : Int)) (hl : ∀ p ∈ l, Pq.Px.U p) (w : World) (hs : SlK .u64 w a n l) :
    Calls Tryz.prog 54 #[.slice a n cap, agH G] w fun e w' => e = .returned (Pl.wV G l) ∧ Below w.heap.size w w' := by
  have hmm := hm.m
  have hF := refFormat_any G hm.1
  unfold Hj.fm agH at hF
  have hMY := refPlMay_any G hf
  rw [decide_eq_true hm] at hMY
  unfold agH at hMY
  have HMY := Lib.hid hMY
  have HS := Lib.hid hs
  have HU := Lib.hid hl
  have HL := Lib.hid hs.1
  have HWV : Hid (Pl.wV G l = Pl.wV G l) := Lib.hid rfl
  obtain ⟨V, hV⟩ : ∃ V, Pl.wV G l = V := ⟨_, rfl⟩
  rw [hV]
  have HV := Lib.hid hV
  obtain ⟨C, hC⟩ : ∃ C, Hj.chan G = C := ⟨_, rfl⟩
  rw [hC] at hF
  have HC := Lib.hid hC
  have HF := Lib.hid hF
  have gN : wrap64 (G.w * G.h) = (n : Int) := by rw [hN, IntWalk.wrap64_in] <;> omega
  have gn : ((n : Int) != (n : Int)) = false := by simp
  obtain ⟨gw, hgw⟩ : ∃ gw : Nat, G.w = (gw : Int) := ⟨G.w.toNat, by omega⟩
  have HGW := Lib.hid hgw
  have w1 : ¬ (gw : Int) = 0 := by omega
  have w2 : ((gw : Int) == 0) = false := by simp; omega
  have w3 : ¬ gw = 0 := by omega
  have w4 : (gw == 0) = false := by simp; omega
  have w5 : wrap64 ((gw : Int) - 1) = (gw : Int) - 1 := by rw [IntWalk.wrap64_in] <;> omega
  clear hs hl hV hC hF hf hm hMY hgw
  unfold agH
  go_enter Tryz.func54, Tryz.ntmps54
  go_wp2_with fail
  refine (HMY.out _).mono ?_
  rintro e w1 ⟨rfl, hb⟩
  have HB1 := Lib.hid (((Below.refl _ w).alloc (Nat.le_refl _) _).trans (hb.mono (by simp)))
  have HK1 := Lib.hid ((Hb.new w 112 G).later hb)
  have HS1 := Lib.hid (HS.out.below HB1.out)
  clear hb
  obtain ⟨hb0, hh0⟩ : ∃ k, w.heap.size = k := ⟨_, rfl⟩
  rw [hh0] at HK1 ⊢
  have HH0 := Lib.hid hh0
  clear hh0
  obtain ⟨k0, k1, k2, k3⟩ := HK1.out.cells
  go_wp2_with fail
  clear k0 k1 k2 k3
  go_loopw [7, 8] (fun u7 u8 wr => ∃ i : Nat, i ≤ n ∧ u8 = .int .i64 i ∧ u7 = .string (strOfNums (Pl.wAll G l i)) ∧ (∀ j, j < i → Pq.Px.fitsV (l.getD j 0) C G.m = true) ∧ Below w1.heap.size w1 wr) (fun _ u8 _ => n - (intOf u8).toNat)
  case atStart => exact ⟨0, Nat.zero_le _, rfl, rfl, (fun j hj => absurd hj (Nat.not_lt_zero _)), .refl _ _⟩
  case round =>
    obtain ⟨i, hi, rfl, rfl, hfit, hB⟩ := hrel
    have HB := Lib.hid hB
    have HFIT := Lib.hid hfit
    obtain ⟨k0, k1, k2, k3⟩ := (HK1.out.later hB).cells
    have HBt := Lib.hid (HB1.out.trans (hB.mono HB1.out.size))
    clear hB hfit
    by_cases hlt : i < n
    · obtain ⟨p, hp⟩ : ∃ p, l.getD i 0 = p := ⟨_, rfl⟩
      have hil : i < l.length := by rw [HL.out]; exact hlt
      have hU : Pq.Px.U p := by rw [← hp]; exact HU.out _ (getD_mem hil)
      have HZ := Lib.hid (Pl.wAll_succ G l i)
      have hAL := Pl.wAll_len (G := G) HU.out i (by omega)
      have hsi := Pl.smp_in hU
      have HI := Lib.hid (Pl.smp_I hU)
      have HUP := Lib.hid (fun W => Pq.refUnpack_any p hU W)
      obtain ⟨F, hF⟩ : ∃ F, Pq.Px.fitsV p C G.m = F := ⟨_, rfl⟩
      have HFT : Hid (∀ W, Calls Tryz.prog 63 #[.int .u64 p, .agg #[.int .i64 C, .int .i64 G.m]] W fun e w' => e = .returned (.bool F) ∧ Below W.heap.size W w') := Lib.hid fun W => by rw [← hF]; exact Pq.refFits_any p C G.m hU W
      obtain ⟨zs, hzs⟩ : ∃ zs, Pq.Px.smp p = zs := ⟨_, rfl⟩
      obtain ⟨A, hA⟩ : ∃ A, Pl.wAll G l i = A := ⟨_, rfl⟩
      rw [hp, hzs, hA] at HZ
      rw [hzs] at HI HUP hsi
      rw [hA] at hAL ⊢
      obtain ⟨m, hm⟩ : ∃ m, zs.length = m := ⟨_, rfl⟩
      have HML := Lib.hid hm
      have hm3 : m ≤ 3 := by have := hsi.1; omega
      have HFF := Lib.hid (show Pq.Px.fitsV (l.getD i 0) C G.m = F by rw [hp]; exact hF)
      obtain ⟨blk, off, ha, c0⟩ : ∃ blk off, a = some ⟨blk, off, none⟩ ∧ wr.cell? ⟨blk, off + i, none⟩ = some (.int .u64 p) := by
        rcases HS.out.2 with h | ⟨blk, off, rfl, hc⟩
        · omega
        · exact ⟨blk, off, rfl, cell_later HBt.out (by rw [hc i hlt, hp])⟩
      subst ha
      have hBt := Below.refl wr.heap.size wr
      have HAL := Lib.hid hAL
      have HIL := Lib.hid hil
      have HWR := Lib.hid (show i < n from hlt)
      clear hp hU hsi hzs hA hm hil hF hAL
      go_wp2_with fail
      go_cut [9] (fun s9 wx => s9 = .bool F ∧ Below wr.heap.size wr wx)
      case first =>
        go_region_held3 (fun w' => w'.cell? ⟨hb0, 0, none⟩ = some (.int .i64 G.kd) ∧ w'.cell? ⟨hb0, 1, none⟩ = some (.int .i64 G.w) ∧ w'.cell? ⟨hb0, 2, none⟩ = some (.int .i64 G.h) ∧ w'.cell? ⟨hb0, 3, none⟩ = some (.int .i64 G.m) ∧ w'.cell? ⟨blk, off + i, none⟩ = some (.int .u64 p))
          (first | exact ⟨k0, k1, k2, k3, c0⟩ | exact ⟨cell_later (by repeat' (first | (with_reducible exact hBt) | (with_reducible refine Below.alloc ?_ ?_ _) | (with_reducible refine Below.drew ?_) | (with_reducible refine below_drewN ?_ _) | (with_reducible refine Below.setCell ?_ ?_ _) | exact hBt.size | (have := hBt.size; first | omega | (simp; done) | (simp; omega)))) k0, cell_later (by repeat' (first | (with_reducible exact hBt) | (with_reducible refine Below.alloc ?_ ?_ _) | (with_reducible refine Below.drew ?_) | (with_reducible refine below_drewN ?_ _) | (with_reducible refine Below.setCell ?_ ?_ _) | exact hBt.size | (have := hBt.size; first | omega | (simp; done) | (simp; omega)))) k1, cell_later (by repeat' (first | (with_reducible exact hBt) | (with_reducible refine Below.alloc ?_ ?_ _) | (with_reducible refine Below.drew ?_) | (with_reducible refine below_drewN ?_ _) | (with_reducible refine Below.setCell ?_ ?_ _) | exact hBt.size | (have := hBt.size; first | omega | (simp; done) | (simp; omega)))) k2, cell_later (by repeat' (first | (with_reducible exact hBt) | (with_reducible refine Below.alloc ?_ ?_ _) | (with_reducible refine Below.drew ?_) | (with_reducible refine below_drewN ?_ _) | (with_reducible refine Below.setCell ?_ ?_ _) | exact hBt.size | (have := hBt.size; first | omega | (simp; done) | (simp; omega)))) k3, cell_later (by repeat' (first | (with_reducible exact hBt) | (with_reducible refine Below.alloc ?_ ?_ _) | (with_reducible refine Below.drew ?_) | (with_reducible refine below_drewN ?_ _) | (with_reducible refine Below.setCell ?_ ?_ _) | exact hBt.size | (have := hBt.size; first | omega | (simp; done) | (simp; omega)))) c0⟩)
          (first
            | (go_at_call 70; refine (HF.out _).mono ?_; rintro e w9 ⟨rfl, hb9⟩; replace hBt := bel_step (w := wr) (by repeat' (first | (with_reducible exact hBt) | (with_reducible refine Below.alloc ?_ ?_ _) | (with_reducible refine Below.drew ?_) | (with_reducible refine below_drewN ?_ _) | (with_reducible refine Below.setCell ?_ ?_ _) | exact hBt.size | (have := hBt.size; first | omega | (simp; done) | (simp; omega)))) hb9; have hsz9 := hBt.size)
            | (go_at_call 63; refine (HFT.out _).mono ?_; rintro e w9 ⟨rfl, hb9⟩; replace hBt := bel_step (w := wr) (by repeat' (first | (with_reducible exact hBt) | (with_reducible refine Below.alloc ?_ ?_ _) | (with_reducible refine Below.drew ?_) | (with_reducible refine below_drewN ?_ _) | (with_reducible refine Below.setCell ?_ ?_ _) | exact hBt.size | (have := hBt.size; first | omega | (simp; done) | (simp; omega)))) hb9; have hsz9 := hBt.size))
        all_goals
          go_wp2_with fail
          go_meet
          case rel => exact ⟨rfl, hBt⟩
      case rest =>
        obtain ⟨rfl, hbx⟩ := hcut
        have HBX := Lib.hid hbx
        replace k0 := cell_later hbx k0; replace k1 := cell_later hbx k1; replace k2 := cell_later hbx k2; replace k3 := cell_later hbx k3; replace c0 := cell_later hbx c0
        clear hbx hBt HF HFT HMY
        cases F with
        | false =>
          have HVV : Hid (V = .tuple #[.string ⟨#[]⟩, .int .i64 1]) := by
            refine Lib.hid ?_
            rw [← HV.out]; unfold Pl.wV
            rw [Pl.fitAll_no HIL.out (by rw [HC.out]; exact HFF.out)]; rfl
          go_wp2_with fail
          go_ret2
          rw [HVV.out]
          exact ⟨rfl, HBt.out.trans (HBX.out.mono HBt.out.size)⟩
        | true =>
          go_wp2_with fail
          refine (HUP.out _).mono ?_
          rintro e w2 ⟨ad, cp, rfl, hO, hb2⟩
          rw [HML.out]
          have HO := Lib.hid hO.sl
          have HB2 := Lib.hid hb2
          replace k0 := cell_later hb2 k0; replace k1 := cell_later hb2 k1; replace k2 := cell_later hb2 k2; replace k3 := cell_later hb2 k3
          have K0 := Lib.hid k0; have K1 := Lib.hid k1; have K2 := Lib.hid k2; have K3 := Lib.hid k3
          have HWL : Hid (A.length ≤ 202000) := Lib.hid (by have := HAL.out; omega)
          clear hO hb2 c0 k0 k1 k2 k3
          go_wp2_with fail
          go_loopw [7, 11] (fun u7 u11 wi => ∃ j : Nat, j ≤ m ∧ u11 = .int .i64 j ∧ u7 = .string (strOfNums (A ++ Pl.wTk zs j)) ∧ Below w2.heap.size w2 wi) (fun _ u11 _ => m - (intOf u11).toNat)
          case atStart => exact ⟨0, Nat.zero_le _, rfl, by simp [Pl.wTk], .refl _ _⟩
          case round =>
            obtain ⟨j, hj, rfl, rfl, hC⟩ := hrel
            have HCB := Lib.hid hC
            clear hC
            by_cases hjt : j < m
            · obtain ⟨z, hz⟩ : ∃ z, zs.getD j 0 = z := ⟨_, rfl⟩
              have hjl : j < zs.length := by rw [HML.out]; exact hjt
              have hzI : Nu.I z := by rw [← hz]; exact HI.out _ (getD_mem hjl)
              have HY := Lib.hid (Pl.wTk_succ zs j)
              rw [hz, HML.out] at HY
              have HDC := Lib.hid (fun W => refDecimal_any z hzI W)
              have hTL := Pl.wTk_len HI.out j (by omega)
              have hDL := Nu.decV_len hzI
              obtain ⟨T, hT⟩ : ∃ T, strOfNums (A ++ Pl.wTk zs j) = T := ⟨_, rfl⟩
              obtain ⟨D, hD⟩ : ∃ D, strOfNums (Nu.decV z) = D := ⟨_, rfl⟩
              have hTs : T.size ≤ 203000 := by rw [← hT, strOfNums_size, List.length_append]; have := HWL.out; omega
              have hDs : D.size ≤ 66 := by rw [← hD, strOfNums_size]; exact hDL
              have L1 : ¬ 9223372036854775807 < T.size + D.size := by omega
              have L2 : ¬ 9223372036854775807 < T.size + D.size + 1 := by omega
              rw [hD] at HDC
              rw [hT]
              have HT := Lib.hid hT; have HD := Lib.hid hD
              obtain ⟨b2, o2, rfl, hcell⟩ : ∃ blk off, ad = some ⟨blk, off, none⟩ ∧ wr.cell? ⟨blk, off + j, none⟩ = some (.int .i64 z) := by
                rcases HO.out.2 with h | ⟨blk, off, rfl, hc⟩
                · rw [HML.out] at h; omega
                · exact ⟨blk, off, rfl, cell_later HCB.out (by rw [hc j (by rw [HML.out]; exact hjt), hz])⟩
              have g1 : wrap64 ((m : Int) - 1) = (m : Int) - 1 := by rw [IntWalk.wrap64_in] <;> omega
              clear hz hjl hzI hTL hDL hT hD
              by_cases hj1 : j + 1 < m
              · have hj2 : (j : Int) < (m : Int) - 1 := by omega
                have HYY : Hid (T ++ D ++ ⟨#[32]⟩ = strOfNums (A ++ Pl.wTk zs (j + 1))) := Lib.hid (by rw [HY.out, if_pos hj1, ← HT.out, ← HD.out, Pl.str32]; simp only [strOfNums_append, List.append_assoc, ByteArray.append_assoc])
                go_wp2_with (go_at_call 94; refine (HDC.out _).mono ?_; rintro e w3 ⟨rfl, hb3⟩; have HB3 := Lib.hid hb3; clear hb3)
                go_roundw
                case rel => exact ⟨j + 1, by omega, by go_num, by rw [← HYY.out], HCB.out.trans (HB3.out.mono HCB.out.size)⟩
                case measure => simp [intOf]; omega
              · have hj2 : ¬ (j : Int) < (m : Int) - 1 := by omega
                have HYY : Hid (T ++ D = strOfNums (A ++ Pl.wTk zs (j + 1))) := Lib.hid (by rw [HY.out, if_neg hj1, ← HT.out, ← HD.out]; simp only [strOfNums_append, List.append_nil, ByteArray.append_assoc])
                go_wp2_with (go_at_call 94; refine (HDC.out _).mono ?_; rintro e w3 ⟨rfl, hb3⟩; have HB3 := Lib.hid hb3; clear hb3)
                go_roundw
                case rel => exact ⟨j + 1, by omega, by go_num, by rw [← HYY.out], HCB.out.trans (HB3.out.mono HCB.out.size)⟩
                case measure => simp [intOf]; omega
            · have hje : j = m := by omega
              subst hje
              obtain ⟨k0, k1, k2, k3⟩ : _ ∧ _ ∧ _ ∧ _ := ⟨cell_later HCB.out K0.out, cell_later HCB.out K1.out, cell_later HCB.out K2.out, cell_later HCB.out K3.out⟩
              rw [HGW.out] at k1
              have hTL := Pl.wTk_len HI.out j (by rw [HML.out]; omega)
              have HY := HZ.out
              rw [HML.out] at HY
              obtain ⟨T, hT⟩ : ∃ T, strOfNums (A ++ Pl.wTk zs j) = T := ⟨_, rfl⟩
              have hTs : T.size ≤ 203000 := by rw [← hT, strOfNums_size, List.length_append]; have := HWL.out; omega
              have L1 : ¬ 9223372036854775807 < T.size + 1 := by omega
              rw [hT]
              have HT := Lib.hid hT
              have HYS := Lib.hid HY
              have hw1 : Pl.wLn G i = Pl.wLn G i := rfl
              clear hT hTL HY hw1
              have FITN : Hid (∀ j, j < i + 1 → Pq.Px.fitsV (l.getD j 0) C G.m = true) := Lib.hid fun j hj => by
                by_cases he : j = i
                · rw [he]; exact HFF.out
                · exact HFIT.out j (by omega)
              have BN := Lib.hid (HBX.out.trans ((HB2.out.trans (HCB.out.mono HB2.out.size)).mono HBX.out.size))
              go_wp2_with fail
              all_goals
                go_roundw
                case rel =>
                  first
                    | exact ⟨i + 1, by omega, by go_num, by rw [HYS.out, Pl.ln_yes1 (by assumption), if_pos rfl, ← HT.out, Pl.str10, ← strOfNums_append], FITN.out, HB.out.trans (BN.out.mono HB.out.size)⟩
                    | exact ⟨i + 1, by omega, by go_num, by rw [HYS.out, Pl.ln_yes2 HGW.out (by assumption), if_pos rfl, ← HT.out, Pl.str10, ← strOfNums_append], FITN.out, HB.out.trans (BN.out.mono HB.out.size)⟩
                    | exact ⟨i + 1, by omega, by go_num, by rw [HYS.out, Pl.ln_yes3 HGW.out (by assumption), if_pos rfl, ← HT.out, Pl.str10, ← strOfNums_append], FITN.out, HB.out.trans (BN.out.mono HB.out.size)⟩
                    | exact ⟨i + 1, by omega, by go_num, by rw [HYS.out, Pl.ln_no HGW.out (by assumption), ← HT.out]; simp, FITN.out, HB.out.trans (BN.out.mono HB.out.size)⟩
                case measure => simp [intOf]; omega
    · have hin : i = n := by omega
      subst hin
      have HVV : Hid (V = .tuple #[.string (strOfNums (Pl.wAll G l i)), .int .i64 0]) := by
        refine Lib.hid ?_
        rw [← HV.out]; unfold Pl.wV
        rw [Pl.fitAll_yes (fun j hj => by rw [HC.out]; exact HFIT.out j (by rw [HL.out] at hj; exact hj)), if_pos rfl, HL.out]
      go_wp2_with fail
      go_ret2
      rw [HVV.out]
      exact ⟨rfl, HBt.out⟩
end Go.Proofs.YtmnhiagppicegaaGreat

/- Pixels of a head out of any list that came in; a text with more blanks behind each blank. Condition: the head may be, and there are not too many pixels. -/
namespace Go.Proofs.YtmnhiagppicegaaGreat
open Go.RowKit
set_option linter.unusedVariables false

namespace Pl
theorem wAll_bytes {G : Hd.H} {l : List Int} (hl : Fits G l) : ∀ i, i ≤ l.length → ∀ x ∈ wAll G l i, 0 ≤ x ∧ x ≤ 255
  | 0, _, x, h => by cases h
  | i + 1, hi, x, h => by
    have ht : ∀ (zs : List Int) k, ∀ x ∈ wTk zs k, 0 ≤ x ∧ x ≤ 255 := by
      intro zs k
      induction k with
      | zero => intro x h; cases h
      | succ k ih =>
        intro x h
        rw [wTk_succ] at h
        rcases List.mem_append.1 h with h | h
        · rcases List.mem_append.1 h with h | h
          · exact ih x h
          · exact Nu.decV_bytes _ x h
        · split at h
          · rw [List.mem_singleton.1 h]; omega
          · cases h
    rw [wAll_succ] at h
    rcases List.mem_append.1 h with h | h
    · rcases List.mem_append.1 h with h | h
      · exact wAll_bytes hl i (by omega) x h
      · exact ht _ _ x h
    · split at h
      · rw [List.mem_singleton.1 h]; omega
      · cases h
theorem fits_all {G : Hd.H} {l : List Int} (hm : May G) (hl : Fits G l) : fitAll G l = true := by
  unfold fitAll
  rw [List.all_eq_true]
  intro p hp
  have := hm.m
  exact fits_true (hl p hp) (by omega) (by omega)
end Pl
end Go.Proofs.YtmnhiagppicegaaGreat

/- The samples of pixels told as texts, with a text between, by the code: over any memory. Condition: the pixels fit their head, and are not too many. -/
namespace Go.Proofs.YtmnhiagppicegaaGreat
open Go.RowKit
set_option linter.unusedVariables false

theorem wpList_app1 {P : Program} {w : World} {ops : Array Oper} {rest : List Oper} {o : Oper} {a : Act} {Q : Exit → Act → World → Prop} (hgd : o.guard = none) (s x : Operand) (t : TypeId)
    (ho : o.op = .call { callee := .builtin .append, args := #[s, x], argTypes := #[t, t] })
    (base : Nat) (e : TypeId) (i : TypeInfo) (z : Value) (bytes : Nat) (ht : P.underlying t = some (.slice e)) (hi : P.info? e = some i) (hz : i.zero = some z) (hzc : z.cells.size = 1)
    (hsize : i.size = 1) (hby : i.bytes = bytes) (v : Value) (n : Nat) (xs : List Value) (hs : a.eval s = v) (hown : w.ownsRow base e 1 v n xs)
    (g : Nat) (y : Value) (hyc : y.oneCell' = true) (hx : a.eval x = .slice (some ⟨g, 0, none⟩) 1 1) (hy : w.cell? ⟨g, 0, none⟩ = some y) (h63 : n + 1 ≤ maxLen) (hbytes : (n + 1) * bytes ≤ 140737488355328) (hbase : base ≤ w.heap.size)
    (h : ∀ v' w', w'.ownsRow base e 1 v' (n + 1) (xs ++ [y]) → w.grownBy w' v.ownBlock → (v'.ownBlock = v.ownBlock ∨ v'.ownBlock = some w.heap.size) → wpList P ops Q rest (a.put o.dst v') w') : wpList P ops Q (o :: rest) a w := by
  refine wpList_plain hgd fun K hK => ?_
  obtain ⟨v', w', hr, h2, h3, _, h4⟩ := run_append_own_at (P := P) w base t o.type e i z 1 bytes ht hi hz hsize hby hzc (by decide) v n xs hown ⟨g, 0, none⟩ 1 1 [y] (by simp) (fun j u hu => by
      cases j with
      | zero => simp at hu; subst hu; simpa [Addr.add] using hy
      | succ j => simp at hu) (fun u hu => by rw [List.mem_singleton.1 hu]; exact hyc) h63 hbytes hbase
  unfold Oper.wp execOp
  simp only [ho, resolve, invoke, builtin, Sem.run_bind, Sem.run_pure, Result.andThen_ok, List.map_toArray, List.map_cons, List.map_nil, hs, hx, hr]
  exact hK _ _ (h v' w' h2 h3 h4)
/-- numbers of a row that lies apart from another one -/
def RowS (W : World) (v : Value) (g m : Nat) (zs : List Int) : Prop := SlK .i64 W (some ⟨g, 0, none⟩) m zs ∧ g < W.heap.size ∧ v.ownBlock ≠ some g
theorem RowS.later {W W' : World} {v : Value} {g m : Nat} {zs : List Int} (h : RowS W v g m zs) (hb : Below W.heap.size W W') : RowS W' v g m zs := ⟨h.1.below hb, Nat.lt_of_lt_of_le h.2.1 hb.size, h.2.2⟩
theorem RowS.grown {W w' : World} {v v' : Value} {g m : Nat} {zs : List Int} (h : RowS W v g m zs) (hg : W.grownBy w' v.ownBlock) (hat : v'.ownBlock = v.ownBlock ∨ v'.ownBlock = some W.heap.size) : RowS w' v' g m zs := by
  obtain ⟨⟨h1, h2⟩, h3, h4⟩ := h
  refine ⟨⟨h1, ?_⟩, ?_, ?_⟩
  · rcases h2 with h2 | ⟨b, o, e, hc⟩
    · exact .inl h2
    · refine .inr ⟨b, o, e, fun i hi => ?_⟩
      cases e
      rw [hg.cell_far ⟨g, 0 + i, none⟩ h3 (fun e => h4 e.symm)]
      exact hc i hi
  · exact Nat.lt_of_lt_of_le h3 hg.size
  · intro e
    rcases hat with k | k
    · exact h4 (k.symm.trans e)
    · rw [k] at e; injection e with e; omega
def strD (zs : List Int) : List Value := zs.map fun z => .string (strOfNums (Nu.decV z))
theorem Tryz.info_str : (Tryz.prog.info? 9).map (fun i => (i.zero, i.size, i.bytes)) = some (some (.string ⟨#[]⟩), 1, 16) := by kernel_rfl
theorem strD_app (a b : List Int) : strD (a ++ b) = strD a ++ strD b := by simp [strD]
theorem smps_len {G : Hd.H} {l : List Int} (hl : Pl.Fits G l) : ((l.flatMap Pq.Px.smp).length) ≤ 3 * l.length := by
  induction l with
  | nil => simp
  | cons p l ih =>
    have h1 := (Pl.smp_in (Pq.goodU (hl p (List.mem_cons_self ..)))).1
    have h2 := ih fun q hq => hl q (List.mem_cons_of_mem _ hq)
    rw [List.flatMap_cons, List.length_append, List.length_cons]; omega
theorem smps_I {G : Hd.H} {l : List Int} (hl : Pl.Fits G l) : ∀ z ∈ l.flatMap Pq.Px.smp, Nu.I z := by
  intro z hz
  obtain ⟨p, hp, hz⟩ := List.mem_flatMap.1 hz
  exact Pl.smp_I (Pq.goodU (hl p hp)) z hz
end Go.Proofs.YtmnhiagppicegaaGreat

/- Whether all pixels fit a format, by the code of rasters of bytes: over any memory. Condition: not too many. -/
namespace Go.Proofs.YtmnhiagppicegaaGreat
open Go.RowKit
set_option linter.unusedVariables false

set_option maxRecDepth 100000 in
set_option maxHeartbeats 4000000 in
theorem rwFit_any (a : Option Addr) (n cap : Nat) (l : List Int) (G : Hd.H) (hn : n ≤ 9223372036854775807) (hl : ∀ p ∈ l, Pq.Px.U p) (w : World) (hs : SlK .u64 w a n l) :
    Calls Tryz.prog 137 #[.slice a n cap, .agg #[.int .i64 (Hj.chan G), .int .i64 G.m]] w fun e w' => e = .returned (.bool (Pl.fitAll G l)) ∧ Below w.heap.size w w' := by
  obtain ⟨V, hV⟩ : ∃ V, Pl.fitAll G l = V := ⟨_, rfl⟩
  rw [hV]
  have HV := Lib.hid hV
  have HS := Lib.hid hs
  have HU := Lib.hid hl
  have HL := Lib.hid hs.1
  obtain ⟨C, hC⟩ : ∃ C, Hj.chan G = C := ⟨_, rfl⟩
  rw [hC]
  have HC := Lib.hid hC
  have hlen0 : ¬ (n : Int) < 0 := by omega
  clear hs hl hV hC
  go_enter Tryz.func137, Tryz.ntmps137
  go_upto_region 1 with fail
  generalize hW : w.alloc (.cells #[.int .i64 C, .int .i64 G.m] 28) = w1
  have HB1 : Hid (Below w.heap.size w w1) := by show Below _ _ _; rw [← hW]; exact box1' _ _
  have hf0 : w1.cell? ⟨w.heap.size, 0, none⟩ = some (.int .i64 C) := by rw [← hW]; simp [go_sem]
  have hf1 : w1.cell? ⟨w.heap.size, 1, none⟩ = some (.int .i64 G.m) := by rw [← hW]; simp [go_sem]
  obtain ⟨fb, hfb⟩ : ∃ k, w.heap.size = k := ⟨_, rfl⟩
  rw [hfb] at hf0 hf1
  have hfl : fb < w1.heap.size := by rw [← hfb, ← hW]; simp
  have HF0 := Lib.hid hf0; have HF1 := Lib.hid hf1
  have HFB := Lib.hid hfb
  clear hW hf0 hf1
  rw [hfb]
  clear hfb
  go_wp2_with fail
  go_loopw [9] (fun u9 wr => ∃ i : Nat, i ≤ n ∧ u9 = .int .i64 i ∧ (∀ j, j < i → Pq.Px.fitsV (l.getD j 0) C G.m = true) ∧ Below w1.heap.size w1 wr) (fun u9 _ => n - (intOf u9).toNat)
  case atStart => exact ⟨0, Nat.zero_le _, rfl, (fun j hj => absurd hj (Nat.not_lt_zero _)), .refl _ _⟩
  case round =>
    obtain ⟨i, hi, rfl, hfit, hB⟩ := hrel
    have HB := Lib.hid hB
    have HFIT := Lib.hid hfit
    have f0 := cell_later hB HF0.out
    have f1 := cell_later hB HF1.out
    clear hB hfit
    by_cases hlt : i < n
    · have hil : i < l.length := by rw [HL.out]; exact hlt
      obtain ⟨p, hp⟩ : ∃ p, l.getD i 0 = p := ⟨_, rfl⟩
      have hU : Pq.Px.U p := by rw [← hp]; exact HU.out _ (getD_mem hil)
      obtain ⟨F, hF⟩ : ∃ F, Pq.Px.fitsV p C G.m = F := ⟨_, rfl⟩
      have HFT : Hid (∀ W, Calls Tryz.prog 82 #[.int .u64 p, .agg #[.int .i64 C, .int .i64 G.m]] W fun e w' => e = .returned (.bool F) ∧ Below W.heap.size W w') := Lib.hid fun W => by rw [← hF]; exact Pq.fits_any p C G.m hU W
      have HFF := Lib.hid (show Pq.Px.fitsV (l.getD i 0) C G.m = F by rw [hp]; exact hF)
      obtain ⟨blk, off, ha, c0⟩ : ∃ blk off, a = some ⟨blk, off, none⟩ ∧ wr.cell? ⟨blk, off + i, none⟩ = some (.int .u64 p) := by
        rcases HS.out.2 with h | ⟨blk, off, rfl, hc⟩
        · omega
        · exact ⟨blk, off, rfl, cell_later (HB1.out.trans (HB.out.mono HB1.out.size)) (by rw [hc i hlt, hp])⟩
      subst ha
      have HIL := Lib.hid hil
      clear hp hU hF hil
      cases F with
      | false =>
        have HVV : Hid (V = false) := by
          refine Lib.hid ?_
          rw [← HV.out]
          exact Pl.fitAll_no HIL.out (by rw [HC.out]; exact HFF.out)
        go_wp2_with fail
        refine (HFT.out _).mono ?_
        rintro e w2 ⟨rfl, hb⟩
        have HB2 := Lib.hid hb
        clear hb
        go_wp2_with fail
        go_ret
        rw [HVV.out]
        exact ⟨rfl, HB1.out.trans ((HB.out.trans (HB2.out.mono HB.out.size)).mono HB1.out.size)⟩
      | true =>
        go_wp2_with fail
        refine (HFT.out _).mono ?_
        rintro e w2 ⟨rfl, hb⟩
        have HB2 := Lib.hid hb
        clear hb
        have FITN : Hid (∀ j, j < i + 1 → Pq.Px.fitsV (l.getD j 0) C G.m = true) := Lib.hid fun j hj => by
          by_cases he : j = i
          · rw [he]; exact HFF.out
          · exact HFIT.out j (by omega)
        go_wp2_with fail
        go_roundw
        case rel => exact ⟨i + 1, by omega, by go_num, FITN.out, HB.out.trans (HB2.out.mono HB.out.size)⟩
        case measure => simp [intOf]; omega
    · have hin : i = n := by omega
      subst hin
      have HVV : Hid (V = true) := by
        refine Lib.hid ?_
        rw [← HV.out]
        exact Pl.fitAll_yes (fun j hj => by rw [HC.out]; exact HFIT.out j (by rw [HL.out] at hj; exact hj))
      go_wp2_with fail
      go_ret
      rw [HVV.out]
      exact ⟨rfl, HB1.out.trans (HB.out.mono HB1.out.size)⟩
end Go.Proofs.YtmnhiagppicegaaGreat

/- Whether all pixels fit a format, by the code; a list in parts of one length, handed out one by one: over any memory. Condition: not too many. -/
namespace Go.Proofs.YtmnhiagppicegaaGreat
open Go.RowKit Go.Shelf
set_option linter.unusedVariables false

set_option maxRecDepth 100000 in
set_option maxHeartbeats 4000000 in
theorem plFit_any (a : Option Addr) (n cap : Nat) (l : List Int) (G : Hd.H) (hn : n ≤ 9223372036854775807) (hl : ∀ p ∈ l, Pq.Px.U p) (w : World) (hs : SlK .u64 w a n l) :
    Calls Tryz.prog 141 #[.slice a n cap, .agg #[.int .i64 (Hj.chan G), .int .i64 G.m]] w fun e w' => e = .returned (.bool (Pl.fitAll G l)) ∧ Below w.heap.size w w' := by
  obtain ⟨V, hV⟩ : ∃ V, Pl.fitAll G l = V := ⟨_, rfl⟩
  rw [hV]
  have HV := Lib.hid hV
  have HS := Lib.hid hs
  have HU := Lib.hid hl
  have HL := Lib.hid hs.1
  obtain ⟨C, hC⟩ : ∃ C, Hj.chan G = C := ⟨_, rfl⟩
  rw [hC]
  have HC := Lib.hid hC
  have hlen0 : ¬ (n : Int) < 0 := by omega
  clear hs hl hV hC
  go_enter Tryz.func141, Tryz.ntmps141
  go_upto_region 1 with fail
  generalize hW : w.alloc (.cells #[.int .i64 C, .int .i64 G.m] 28) = w1
  have HB1 : Hid (Below w.heap.size w w1) := by show Below _ _ _; rw [← hW]; exact box1' _ _
  have hf0 : w1.cell? ⟨w.heap.size, 0, none⟩ = some (.int .i64 C) := by rw [← hW]; simp [go_sem]
  have hf1 : w1.cell? ⟨w.heap.size, 1, none⟩ = some (.int .i64 G.m) := by rw [← hW]; simp [go_sem]
  obtain ⟨fb, hfb⟩ : ∃ k, w.heap.size = k := ⟨_, rfl⟩
  rw [hfb] at hf0 hf1
  have hfl : fb < w1.heap.size := by rw [← hfb, ← hW]; simp
  have HF0 := Lib.hid hf0; have HF1 := Lib.hid hf1
  have HFB := Lib.hid hfb
  clear hW hf0 hf1
  rw [hfb]
  clear hfb
  go_wp2_with fail
  go_loopw [9] (fun u9 wr => ∃ i : Nat, i ≤ n ∧ u9 = .int .i64 i ∧ (∀ j, j < i → Pq.Px.fitsV (l.getD j 0) C G.m = true) ∧ Below w1.heap.size w1 wr) (fun u9 _ => n - (intOf u9).toNat)
  case atStart => exact ⟨0, Nat.zero_le _, rfl, (fun j hj => absurd hj (Nat.not_lt_zero _)), .refl _ _⟩
  case round =>
    obtain ⟨i, hi, rfl, hfit, hB⟩ := hrel
    have HB := Lib.hid hB
    have HFIT := Lib.hid hfit
    have f0 := cell_later hB HF0.out
    have f1 := cell_later hB HF1.out
    clear hB hfit
    by_cases hlt : i < n
    · have hil : i < l.length := by rw [HL.out]; exact hlt
      obtain ⟨p, hp⟩ : ∃ p, l.getD i 0 = p := ⟨_, rfl⟩
      have hU : Pq.Px.U p := by rw [← hp]; exact HU.out _ (getD_mem hil)
      obtain ⟨F, hF⟩ : ∃ F, Pq.Px.fitsV p C G.m = F := ⟨_, rfl⟩
      have HFT : Hid (∀ W, Calls Tryz.prog 82 #[.int .u64 p, .agg #[.int .i64 C, .int .i64 G.m]] W fun e w' => e = .returned (.bool F) ∧ Below W.heap.size W w') := Lib.hid fun W => by rw [← hF]; exact Pq.fits_any p C G.m hU W
      have HFF := Lib.hid (show Pq.Px.fitsV (l.getD i 0) C G.m = F by rw [hp]; exact hF)
      obtain ⟨blk, off, ha, c0⟩ : ∃ blk off, a = some ⟨blk, off, none⟩ ∧ wr.cell? ⟨blk, off + i, none⟩ = some (.int .u64 p) := by
        rcases HS.out.2 with h | ⟨blk, off, rfl, hc⟩
        · omega
        · exact ⟨blk, off, rfl, cell_later (HB1.out.trans (HB.out.mono HB1.out.size)) (by rw [hc i hlt, hp])⟩
      subst ha
      have HIL := Lib.hid hil
      clear hp hU hF hil
      cases F with
      | false =>
        have HVV : Hid (V = false) := by
          refine Lib.hid ?_
          rw [← HV.out]
          exact Pl.fitAll_no HIL.out (by rw [HC.out]; exact HFF.out)
        go_wp2_with fail
        refine (HFT.out _).mono ?_
        rintro e w2 ⟨rfl, hb⟩
        have HB2 := Lib.hid hb
        clear hb
        go_wp2_with fail
        go_ret
        rw [HVV.out]
        exact ⟨rfl, HB1.out.trans ((HB.out.trans (HB2.out.mono HB.out.size)).mono HB1.out.size)⟩
      | true =>
        go_wp2_with fail
        refine (HFT.out _).mono ?_
        rintro e w2 ⟨rfl, hb⟩
        have HB2 := Lib.hid hb
        clear hb
        have FITN : Hid (∀ j, j < i + 1 → Pq.Px.fitsV (l.getD j 0) C G.m = true) := Lib.hid fun j hj => by
          by_cases he : j = i
          · rw [he]; exact HFF.out
          · exact HFIT.out j (by omega)
        go_wp2_with fail
        go_roundw
        case rel => exact ⟨i + 1, by omega, by go_num, FITN.out, HB.out.trans (HB2.out.mono HB.out.size)⟩
        case measure => simp [intOf]; omega
    · have hin : i = n := by omega
      subst hin
      have HVV : Hid (V = true) := by
        refine Lib.hid ?_
        rw [← HV.out]
        exact Pl.fitAll_yes (fun j hj => by rw [HC.out]; exact HFIT.out j (by rw [HL.out] at hj; exact hj))
      go_wp2_with fail
      go_ret
      rw [HVV.out]
      exact ⟨rfl, HB1.out.trans (HB.out.mono HB1.out.size)⟩
/-- what Chunk hands back -/
def ChMade (v : Value) (c : Nat) (w : World) (e : Ending) (w' : World) : Prop :=
  ∃ nb bb, e = .returned (.func (.func 169) #[] #[.pointer (some ⟨nb, 0, none⟩), .pointer (some ⟨bb, 0, none⟩)]) ∧ nb ≠ bb ∧ w.heap.size ≤ nb ∧ w.heap.size ≤ bb ∧ nb < w'.heap.size ∧ bb < w'.heap.size ∧
    w'.cell? ⟨nb, 0, none⟩ = some v ∧ w'.cell? ⟨bb, 0, none⟩ = some (.int .i64 c) ∧ Below w.heap.size w w'
theorem ch_made (a : Option Addr) (len cap c : Nat) (hc : 1 ≤ c) (w : World) : Calls Tryz.prog 138 #[.slice a len cap, .int .i64 c] w (ChMade (.slice a len cap) c w) := by
  have h1 : ¬ (c : Int) < 1 := by omega
  go_enter Tryz.func138, Tryz.ntmps138
  go_wp2
  go_ret
  exact ⟨_, _, rfl, by omega, by omega, by omega, by first | (simp; done) | (simp; omega), by first | (simp; done) | (simp; omega), by simp [go_sem], by simp [go_sem], by go_grown⟩
end Go.Proofs.YtmnhiagppicegaaGreat

/- The samples of pixels told as texts, joined, by the code: over any memory. Condition: the pixels fit their head, and are not too many. -/
namespace Go.Proofs.YtmnhiagppicegaaGreat
open Go.RowKit Go.Shelf
set_option linter.unusedVariables false
namespace Pl
def joinI (sep : List Int) : List (List Int) → List Int
  | [] => []
  | [x] => x
  | x :: y :: r => x ++ sep ++ joinI sep (y :: r)
theorem joinI_len {sep : List Int} {b : Nat} (hs : sep.length ≤ 1) : ∀ {xs : List (List Int)}, (∀ x ∈ xs, x.length ≤ b) → (joinI sep xs).length ≤ (b + 1) * xs.length
  | [], _ => by simp [joinI]
  | [x], h => by
    have := h x (List.mem_cons_self ..)
    simp only [joinI, List.length_cons, List.length_nil]; omega
  | x :: y :: r, h => by
    have h1 := h x (List.mem_cons_self ..)
    have h2 := joinI_len hs (xs := y :: r) fun z hz => h z (List.mem_cons_of_mem _ hz)
    simp only [joinI, List.length_append]
    rw [show (x :: y :: r).length = (y :: r).length + 1 from rfl, Nat.mul_add]
    omega
theorem join_str (sep : List Int) : ∀ xs : List (List Int), (Lib.join ((xs.map strOfNums).map (·.data.toList)) (strOfNums sep).data.toList) = (joinI sep xs).map fun n => UInt8.ofNat n.toNat
  | [] => rfl
  | [x] => by simp [Lib.join, List.intercalate, joinI, strOfNums]
  | x :: y :: r => by
    have ih := join_str sep (y :: r)
    simp only [Lib.join, List.intercalate, List.map_cons] at ih ⊢
    simp only [List.intersperse, List.flatten_cons, joinI, List.map_append] at ih ⊢
    rw [ih]
    simp [strOfNums]
end Pl
theorem line_join {w : World} {base : Nat} {v : Value} {k : Nat} {zs : List Int} (sep : List Int) (h : w.ownsRow base 9 1 v k (strD zs)) (hk : zs.length = k) (hs : sep.length ≤ 1) (hI : ∀ z ∈ zs, Nu.I z) (hkb : k ≤ 1000) :
    Calls Tryz.prog 173 #[v, .string (strOfNums sep)] w fun e w' => e = .returned (.string (strOfNums (Pl.joinI sep (zs.map Nu.decV)))) ∧ Below w.heap.size w w' := by
  have hl := Pl.joinI_len (b := 66) hs (xs := zs.map Nu.decV) fun x hx => by
    obtain ⟨z, hz, rfl⟩ := List.mem_map.1 hx
    exact Nu.decV_len (hI z hz)
  have H := h
  rcases h.2 with ⟨rfl, e⟩ | ⟨g, cap, cur, rfl, hb, hg, hle, hm, hsz, htk⟩
  · subst e
    have : zs = [] := List.length_eq_zero_iff.1 hk
    subst this
    refine (sh_join_none none 0 (strOfNums sep) w).mono ?_
    rintro e w' ⟨rfl, rfl⟩
    exact ⟨rfl, .refl _ _⟩
  · have hj := sh_join g 0 cap (zs.map fun z => strOfNums (Nu.decV z)) (strOfNums sep) w (fun j x hx => by
      have hjk : j < k := by
        rcases Nat.lt_or_ge j k with h | h
        · exact h
        · rw [List.getElem?_eq_none (by simp; omega)] at hx; cases hx
      rw [Nat.zero_add, H.cellAt j (by omega)]
      unfold strD
      rw [List.getElem?_map] at hx ⊢
      cases hz : zs[j]? with
      | none => rw [hz] at hx; cases hx
      | some z => rw [hz] at hx; simp at hx ⊢; rw [← hx]) (H.lt g rfl).2 (by simp; omega) (by simp; omega) (by
        rw [show (zs.map fun z => strOfNums (Nu.decV z)) = (zs.map Nu.decV).map strOfNums by simp]
        rw [Pl.join_str, List.length_map]
        rw [List.length_map] at hl
        omega)
    rw [show (zs.map fun z => strOfNums (Nu.decV z)) = (zs.map Nu.decV).map strOfNums by simp, Pl.join_str] at hj
    rw [List.length_map, List.length_map, hk] at hj
    exact hj
end Go.Proofs.YtmnhiagppicegaaGreat

/- A line of a raster of digits, by the code: over any memory. Condition: the pixels fit their head, and are not too many. -/
namespace Go.Proofs.YtmnhiagppicegaaGreat
open Go.RowKit
set_option linter.unusedVariables false
set_option maxRecDepth 100000 in
set_option maxHeartbeats 8000000 in
theorem plLine_any (a : Option Addr) (n cap : Nat) (l : List Int) (G : Hd.H) (hl : Pl.Fits G l) (hn : n ≤ 100) (sep : List Int) (hs1 : sep.length ≤ 1) (w : World) (hs : SlK .u64 w a n l) :
    Calls Tryz.prog 143 #[.slice a n cap, .string (strOfNums sep)] w fun e w' => e = .returned (.string (strOfNums (Pl.joinI sep ((l.flatMap Pq.Px.smp).map Nu.decV) ++ [10]))) ∧ Below w.heap.size w w' := by
  have HS := Lib.hid hs
  have HFT := Lib.hid hl
  have HL := Lib.hid hs.1
  have HS1 := Lib.hid hs1
  obtain ⟨SP, hSP⟩ : ∃ SP, strOfNums sep = SP := ⟨_, rfl⟩
  have HSP := Lib.hid hSP
  rw [hSP]
  obtain ⟨i0, hi, hz0, hz1, hz2⟩ : ∃ i, Tryz.prog.info? 9 = some i ∧ i.zero = some (.string ⟨#[]⟩) ∧ i.size = 1 ∧ i.bytes = 16 := (by have h := Tryz.info_str; cases hh : Tryz.prog.info? 9 with | none => rw [hh] at h; cases h | some i => rw [hh] at h; simp at h; exact ⟨i, rfl, h.1, h.2.1, h.2.2⟩)
  have hlen0 : ¬ (n : Int) < 0 := by omega
  obtain ⟨R, hR⟩ : ∃ R, strOfNums (Pl.joinI sep ((l.flatMap Pq.Px.smp).map Nu.decV) ++ [10]) = R := ⟨_, rfl⟩
  rw [hR]
  have HRR := Lib.hid hR
  clear hR
  clear hs hl hs1 hSP
  go_enter Tryz.func143, Tryz.ntmps143
  go_wp2_with fail
  go_loopw [5, 12] (fun u5 u12 wr => ∃ (i : Nat) (v : Value), i ≤ n ∧ u12 = .int .i64 i ∧ v = u5 ∧ wr.ownsRow w.heap.size 9 1 v ((l.take i).flatMap Pq.Px.smp).length (strD ((l.take i).flatMap Pq.Px.smp)) ∧ Below w.heap.size w wr) (fun _ u12 _ => n - (intOf u12).toNat)
  case atStart => exact ⟨0, _, Nat.zero_le _, rfl, rfl, World.ownsRow_nil _ _ _ _, .refl _ _⟩
  case round =>
    obtain ⟨i, v, hin, rfl, rfl, hrow, hB⟩ := hrel
    have HB := Lib.hid hB
    have HRW := Lib.hid hrow
    clear hB hrow
    by_cases hlt : i < n
    · have hil : i < l.length := by rw [HL.out]; exact hlt
      obtain ⟨p, hp⟩ : ∃ p, l.getD i 0 = p := ⟨_, rfl⟩
      have hgp := HFT.out _ (getD_mem hil)
      rw [hp] at hgp
      have HSC := Lib.hid (Pl.smps_succ l i hil)
      rw [hp] at HSC
      have HUP := Lib.hid (fun W => Pq.unpack_any p (Pq.goodU hgp) W)
      have HI := Lib.hid (Pl.smp_I (Pq.goodU hgp))
      have hne : Pq.Px.smp p ≠ [] := by
        rcases hgp with ⟨-, x, y, z, h3, -⟩ | ⟨-, x, h1, -⟩
        · rw [Pq.Px.smp3 h3]; simp
        · rw [Pq.Px.smp1 h1]; simp
      have hm3 := (Pl.smp_in (Pq.goodU hgp)).1
      have hZl := smps_len (G := G) (l := l.take i) fun q hq => HFT.out q (List.mem_of_mem_take hq)
      rw [List.length_take] at hZl
      obtain ⟨Z, hZ⟩ : ∃ Z, (l.take i).flatMap Pq.Px.smp = Z := ⟨_, rfl⟩
      obtain ⟨zs, hzs⟩ : ∃ zs, Pq.Px.smp p = zs := ⟨_, rfl⟩
      rw [hzs] at HUP HI hne hm3 HSC
      rw [hZ] at HRW HSC hZl
      obtain ⟨m, hm⟩ : ∃ m, zs.length = m := ⟨_, rfl⟩
      obtain ⟨c0, hc0⟩ : ∃ c, Z.length = c := ⟨_, rfl⟩
      rw [hc0] at HRW hZl
      rw [hm] at hm3
      have HML := Lib.hid hm
      have HC0 := Lib.hid hc0
      have hc300 : c0 ≤ 300 := by omega
      obtain ⟨blk, off, ha, hcell⟩ : ∃ blk off, a = some ⟨blk, off, none⟩ ∧ wr.cell? ⟨blk, off + i, none⟩ = some (.int .u64 p) := by
        rcases HS.out.2 with h | ⟨blk, off, rfl, hc⟩
        · omega
        · exact ⟨blk, off, rfl, cell_later HB.out (by rw [hc i hlt, hp])⟩
      subst ha
      clear hp hgp hZ hzs hm hc0 hil hZl
      go_wp2_with fail
      refine (HUP.out _).mono ?_
      rintro e w2 ⟨ad, cp, rfl, hO, hb2⟩
      have hsl := hO.sl
      rcases hO with h | ⟨g, rfl, g1, g2, g3⟩
      · exact absurd h hne
      have hRS : RowS w2 v g m zs := ⟨by have h := hsl; rw [HML.out] at h; exact ⟨h.1, h.2⟩, g2, fun e => by have := (HRW.out.lt g e).2; omega⟩
      rw [HML.out]
      have HRS := Lib.hid hRS
      have HR2 := Lib.hid (below_row HRW.out hb2)
      have HB2 := Lib.hid (HB.out.trans (hb2.mono HB.out.size))
      clear hsl g1 g2 g3 hRS hb2 hcell hne HRW
      have hm0 : ¬ (m : Int) < 0 := by omega
      go_wp2_with fail
      go_loopw [5, 19] (fun u5 u19 wi => ∃ (j : Nat) (u : Value), j ≤ m ∧ u19 = .int .i64 j ∧ u = u5 ∧ wi.ownsRow w.heap.size 9 1 u (c0 + j) (strD (Z ++ zs.take j)) ∧ RowS wi u g m zs ∧ Below w.heap.size w wi) (fun _ u19 _ => m - (intOf u19).toNat)
      case atStart => exact ⟨0, _, Nat.zero_le _, rfl, rfl, by simpa using HR2.out, HRS.out, HB2.out⟩
      case round =>
        obtain ⟨j, u, hjm, rfl, rfl, hru, hrs, hC⟩ := hrel
        have HRU := Lib.hid hru
        have HRZ := Lib.hid hrs
        have HC := Lib.hid hC
        clear hru hrs hC
        by_cases hjt : j < m
        · have hjl : j < zs.length := by rw [HML.out]; exact hjt
          obtain ⟨z, hz⟩ : ∃ z, zs.getD j 0 = z := ⟨_, rfl⟩
          have hzI : Nu.I z := by rw [← hz]; exact HI.out _ (getD_mem hjl)
          have HTJ := Lib.hid (Pl.take_getD zs j hjl)
          rw [hz] at HTJ
          have HDC := Lib.hid (fun W => decimal_any z hzI W)
          obtain ⟨D, hD⟩ : ∃ D, strOfNums (Nu.decV z) = D := ⟨_, rfl⟩
          rw [hD] at HDC
          have HDE := Lib.hid hD
          have hcell : wr.cell? ⟨g, 0 + j, none⟩ = some (.int .i64 z) := by
            rcases HRZ.out.1.2 with h | ⟨b, o, e, hc⟩
            · omega
            · cases e; rw [hc j hjt, hz]
          rw [Nat.zero_add] at hcell
          have HSX : Hid (strD (Z ++ zs.take j) ++ [.string D] = strD (Z ++ zs.take (j + 1))) := Lib.hid (by rw [HTJ.out, ← List.append_assoc, strD_app (Z ++ zs.take j), ← HDE.out]; rfl)
          clear hz hzI hjl hD
          go_wp2_with (first
            | (go_at_call 87; refine (HDC.out _).mono ?_; rintro e w3 ⟨rfl, hb3⟩; have HR3 := Lib.hid (below_row HRU.out hb3); have HS3 := Lib.hid (HRZ.out.later hb3); have HC3 := Lib.hid (HC.out.trans (hb3.mono HC.out.size)); clear hb3 hcell)
            | (at_builtin; refine wpList_app1 rfl _ _ 247 rfl w.heap.size 9 i0 (.string ⟨#[]⟩) 16 Tryz.underlying247 hi hz0 rfl hz1 hz2 u (c0 + j) (strD (Z ++ zs.take j)) rfl (HR3.out.alloc _) w3.heap.size (.string D) rfl rfl (by simp [go_sem]) (by unfold maxLen; omega) (by omega) (by have := HC3.out.size; simp; omega) ?_; intro v2 w5 hown hgrow hat; have HR5 := Lib.hid hown; have HS5 := Lib.hid ((HS3.out.later (box1' _ _)).grown hgrow hat); have HC5 := Lib.hid ((HC3.out.alloc HC3.out.size _).grown hgrow (by have := HC3.out.size; simp; omega) (fun y ey => (HR3.out.lt y ey).1)); clear hown hgrow hat))
          go_roundw
          case rel => exact ⟨j + 1, v2, by omega, by go_num, rfl, by rw [← HSX.out]; exact HR5.out, HS5.out, HC5.out⟩
          case measure => simp [intOf]; omega
        · have hje : j = m := by omega
          subst hje
          have HTT : Hid (zs.take j = zs) := Lib.hid (List.take_of_length_le (by rw [HML.out]; exact Nat.le_refl _))
          go_wp2_with fail
          go_roundw
          case rel => exact ⟨i + 1, u, by omega, by go_num, rfl, by rw [HSC.out, List.length_append, HC0.out, HML.out]; have h := HRU.out; rw [HTT.out] at h; exact h, HC.out⟩
          case measure => simp [intOf]; omega
    · have hie : i = n := by omega
      subst hie
      have HTT : Hid (l.take i = l) := Lib.hid (List.take_of_length_le (by rw [HL.out]; exact Nat.le_refl _))
      have hrow := HRW.out
      rw [HTT.out] at hrow
      have hZl := smps_len HFT.out
      rw [HL.out] at hZl
      have HJ := Lib.hid (line_join (k := (l.flatMap Pq.Px.smp).length) sep hrow rfl HS1.out (smps_I HFT.out) (by omega))
      rw [HSP.out] at HJ
      have hjl := Pl.joinI_len (b := 66) HS1.out (xs := (l.flatMap Pq.Px.smp).map Nu.decV) fun x hx => by
        obtain ⟨z, hz, rfl⟩ := List.mem_map.1 hx
        exact Nu.decV_len (smps_I HFT.out z hz)
      rw [List.length_map] at hjl
      obtain ⟨T, hT⟩ : ∃ T, strOfNums (Pl.joinI sep ((l.flatMap Pq.Px.smp).map Nu.decV)) = T := ⟨_, rfl⟩
      have hTs : T.size ≤ 67 * (3 * i) := by rw [← hT, strOfNums_size]; omega
      rw [hT] at HJ
      have HTE : Hid (T ++ ⟨#[10]⟩ = R) := Lib.hid (by rw [← HRR.out, strOfNums_append, hT]; rfl)
      have L1 : ¬ 9223372036854775807 < T.size + 1 := by omega
      clear hrow hZl hjl hT
      go_wp2_with fail
      refine HJ.out.mono ?_
      rintro e w7 ⟨rfl, hb7⟩
      have HB7 := Lib.hid (HB.out.trans (hb7.mono HB.out.size))
      clear hb7
      go_wp2_with fail
      go_ret
      exact ⟨by first | (rw [HTE.out]; done) | (rw [← HTE.out]; rfl) | (rw [← HTE.out]), HB7.out⟩
end Go.Proofs.YtmnhiagppicegaaGreat

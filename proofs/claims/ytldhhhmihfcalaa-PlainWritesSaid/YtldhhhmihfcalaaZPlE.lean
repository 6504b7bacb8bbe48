/- A reader of digits is told a byte, and the end, over any memory. Condition: its head may be. -/
import Derived.Test.YtldhhhmihfcalaaZPlDD
namespace Go.Proofs.Ytldhhhmihfcalaa
open Go.RowKit
set_option linter.unusedVariables false

section
variable (c : Int) (w : World) (b : Nat) (h : Hd.H) (n : Int) (sv rv : Value) (rows : Int)
set_option maxHeartbeats 1000000 in
theorem plPut_done (t f : Int) (x : Value) (ht : t ≠ 0) (H : PlC w b h n sv rv rows t f x) :
    Calls Try.prog 45 #[.pointer (some ⟨b, 0, none⟩), .int .u8 c] w fun e w' => e = .returned (.tuple #[.slice none 0 0, .int .i64 t]) ∧ ∃ j, w' = w.drewN j := by
  have hc8 := H.c8
  have ht' : (t != 0) = true := by simpa using ht
  go_enter Try.func45, Try.ntmps45
  go_wp2_with (go_quiet (fail))
  go_ret2
  exact ⟨rfl, _, rfl⟩
variable (fn : Nat) (hn : ∀ args w, (callFunc fn args).run Try.prog w = .ok (.enter fn args) w) (H : PlC w b h n sv rv rows 0 0 (.func (.func fn) #[] #[])) (k : Int) (x : Value)
include hn H
set_option maxHeartbeats 1000000 in
theorem plPut_open (hcall : Calls Try.prog fn #[.pointer (some ⟨b, 0, none⟩), .int .u8 c] w (StR w b h k sv rv rows x false 0)) :
    Calls Try.prog 45 #[.pointer (some ⟨b, 0, none⟩), .int .u8 c] w fun e w' => e = .returned (.tuple #[.slice none 0 0, .int .i64 0]) ∧ PlC w' b h k sv rv rows 0 0 x ∧ w.grownBy w' (some b) := by
  have hc8 := H.c8
  have hc10 := H.c10
  have HC := Lib.hid hcall
  clear hcall
  go_enter Try.func45, Try.ntmps45
  go_wp2_with (go_at_fn fn; refine HC.out.mono ?_; rintro e w2 ⟨rfl, h2, hg2⟩; have HH2 := Lib.hid h2; have HG2 := Lib.hid hg2; clear h2 hg2)
  go_ret2
  exact ⟨rfl, HH2.out, HG2.out⟩
set_option maxHeartbeats 1000000 in
theorem plPut_err (d : Bool) (er : Int) (he : er ≠ 0) (hcall : Calls Try.prog fn #[.pointer (some ⟨b, 0, none⟩), .int .u8 c] w (StR w b h k sv rv rows x d er)) :
    Calls Try.prog 45 #[.pointer (some ⟨b, 0, none⟩), .int .u8 c] w fun e w' => e = .returned (.tuple #[.slice none 0 0, .int .i64 2]) ∧ PlC w' b h k sv rv rows 2 er x ∧ w.grownBy w' (some b) := by
  have hc8 := H.c8
  have hc10 := H.c10
  have HC := Lib.hid hcall
  have ke : (er != 0) = true := by simpa using he
  clear hcall he
  go_enter Try.func45, Try.ntmps45
  go_wp2_with (first | (go_at_fn fn; refine HC.out.mono ?_; rintro e w2 ⟨rfl, h2, hg2⟩; have HH2 := Lib.hid h2; have HG2 := Lib.hid hg2; clear h2 hg2) | (go_at_call 81; refine (plWrong_any w2 b h k sv rv rows 0 0 x HH2.out er).mono ?_; rintro e w3 ⟨rfl, h3, hg3⟩; have hd8 := h3.c8; have HH3 := Lib.hid h3; have HG3 := Lib.hid hg3; clear h3 hg3) | go_quiet (fail))
  go_ret2
  exact ⟨rfl, HH3.out.drewN _, (HG2.out.trans HG3.out).trans (grown_drew _ _ _)⟩
set_option maxHeartbeats 1000000 in
theorem plPut_take (n' rows' t' : Int) (out : List Int) (R : World → World → Option Addr → Value → Value → Prop) (hcall : Calls Try.prog fn #[.pointer (some ⟨b, 0, none⟩), .int .u8 c] w (StR w b h k sv rv rows x true 0))
    (htk : ∀ W, PlC W b h k sv rv rows 0 0 x → w.grownBy W (some b) → Calls Try.prog 82 #[.pointer (some ⟨b, 0, none⟩)] W fun e w' => ∃ a c sv' rv', e = .returned (.slice a out.length c) ∧ PlC w' b h n' sv' rv' rows' t' 0 x ∧ R W w' a sv' rv') :
    Calls Try.prog 45 #[.pointer (some ⟨b, 0, none⟩), .int .u8 c] w fun e w' => ∃ a c sv' rv' W1 W2 j, e = .returned (.tuple #[.slice a out.length c, .int .i64 t']) ∧ w.grownBy W1 (some b) ∧ R W1 W2 a sv' rv' ∧ w' = W2.drewN j := by
  have hc8 := H.c8
  have hc10 := H.c10
  have HC := Lib.hid hcall
  have HT := Lib.hid htk
  obtain ⟨ol, hol⟩ : ∃ ol, out.length = ol := ⟨_, rfl⟩
  rw [hol] at HT ⊢
  clear hcall htk hol
  go_enter Try.func45, Try.ntmps45
  go_wp2_with (first | (go_at_fn fn; refine HC.out.mono ?_; rintro e w2 ⟨rfl, h2, hg2⟩; have HH2 := Lib.hid h2; have HG2 := Lib.hid hg2; clear h2 hg2) | (go_at_call 82; refine (HT.out w2 HH2.out HG2.out).mono ?_; rintro e w3 ⟨a3, c3, sv3, rv3, rfl, h3, hr3⟩; have hd8 := h3.c8; have HR3 := Lib.hid hr3; clear h3 hr3) | go_quiet (fail))
  go_ret2
  exact ⟨a3, c3, sv3, rv3, w2, w3, _, rfl, HG2.out, HR3.out, rfl⟩
end
end Go.Proofs.Ytldhhhmihfcalaa

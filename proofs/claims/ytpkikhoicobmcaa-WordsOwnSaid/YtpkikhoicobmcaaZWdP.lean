/- What the laws of layer 14 ask: rows made small, and what ends, told alike. No condition. -/
import Derived.Test.YtpkikhoicobmcaaZWdO
import Derived.Test.YtpkikhoicobmcaaZWdI
import Derived.Test.YtpkikhoicobmcaaZWdL
import Derived.Test.YtpkikhoicobmcaaZWdM
namespace Go.Proofs.Ytpkikhoicobmcaa
open Go.RowKit
set_option linter.unusedVariables false
open Tr Au Wd
/-- a row made small -/
def Row14R (X : List Int) (n : Nat) (W : World) (e : Ending) (w' : World) : Prop := ∃ a c, e = .returned (.slice a n c) ∧ (∀ F : Nat → Prop, (∀ g, F g → g < W.heap.size) → ∀ w'', Sep F w' w'' → SlK .u64 w'' a n X) ∧ n ≤ c ∧ c ≤ 9223372036854775807 ∧ Below W.heap.size W w'
theorem row14 {w : World} {a : Option Addr} {len cap : Nat} {z : List Int} (h : IsRow .u64 w a len cap z) (m : Nat) (hm : m ≤ 100) : ∃ X n, X.length = n ∧ n ≤ m ∧ ∀ W, Below w.heap.size w W → Calls Try.prog 17 #[.slice a len cap, .int .i64 m] W (Row14R X n W) := by
  have hl := isrow_len h
  have hlen : (rowV (z.take len) m).length = min len m := by rw [rowV_len, List.length_take, Nat.min_eq_left hl.2.1]
  refine ⟨rowV (z.take len) m, min len m, hlen, by omega, fun W hb => ?_⟩
  refine (row_tr (c := cap) ((isrow_takeK h len (Nat.le_refl _)).below hb) (fun x hx => u64_of (isrow_wfK h x (List.mem_of_mem_take hx))) hl.1 m hm).mono ?_
  rintro e w' ⟨v, rfl, ho, hb2⟩
  obtain ⟨a', c', rfl, hk, hc⟩ := ownK_row hlen ho
  have hc9 : c' ≤ 9223372036854775807 := by
    rcases ho.2 with ⟨e, _⟩ | ⟨_, _, _, e, _, _, _, hm2, _⟩
    · injection e with _ _ e; omega
    · injection e with _ _ e; unfold maxLen at hm2; omega
  refine ⟨a', c', rfl, fun F hF w'' hs => ⟨hlen, ?_⟩, hc, hc9, hb2⟩
  rcases hk with e | ⟨g, rfl, h1, h2, h3, _⟩
  · left; rw [← hlen, e]; rfl
  · right
    refine ⟨g, 0, rfl, fun i hi => hs.cell (fun e => by have := hF g e; omega) (by simpa using h3 i (by omega))⟩
theorem isrow_sl {w : World} {k : IntKind} {a : Option Addr} {len cap : Nat} {z : List Int} (h : IsRow k w a len cap z) {n : Nat} (hn : n ≤ len) {W : World} (hb : Below w.heap.size w W) : SlK k W a n (z.take n) := (isrow_takeK h n hn).below hb
theorem fin_len8 {S : LL} {q : List Int} (h : S.length ≤ 8) : (fin S q).length ≤ 8 := Nat.le_trans (fin_len S q) h
end Go.Proofs.Ytpkikhoicobmcaa

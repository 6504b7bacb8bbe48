/- What the calls of bits and of the document's own answer hand back, told as the laws use it. Condition: numbers fit their kinds. -/
import Derived.Test.YtjjpnipcpnkakaaBtV
import Derived.Test.YtjjpnipcpnkakaaConv
import Derived.Test.YtjjpnipcpnkakaaSamI
import Derived.Test.YtjjpnipcpnkakaaAround
namespace Go.Proofs.Ytjjpnipcpnkakaa
open Go.RowKit Go.Shelf
set_option linter.unusedVariables false
namespace Bt
/-- a slice that is known whole -/
def Ls (q : IntKind) (w : World) (ad : Option Addr) (n cap : Nat) (xs : List Int) : Prop := SlK q w ad n xs ∧ n ≤ cap ∧ cap ≤ 9223372036854775807
theorem Ls.later {q : IntKind} {w w' : World} {ad : Option Addr} {n cap : Nat} {xs : List Int} (h : Ls q w ad n cap xs) (hb : Below w.heap.size w w') : Ls q w' ad n cap xs := ⟨h.1.below hb, h.2⟩
theorem ls_of {q : IntKind} {base : Nat} {w : World} {e : TypeId} {ad : Option Addr} {n cap : Nat} {xs : List Int} (hn : xs.length = n) (h : w.ownsRow base e 1 (.slice ad n cap) n (xs.map (Value.int q))) : Ls q w ad n cap xs := by
  have hc := owns_caps h
  obtain ⟨ad', cap', e, ho, _⟩ := ownK_row hn h
  cases e
  have := ho.sl
  rw [hn] at this
  exact ⟨this, hc⟩
theorem unpack_t (a : Option Addr) (len cap : Nat) (zs : List Int) (W : Int) (w : World) (h : Bs w a len cap zs) (er : Int) (xs : List Int) (n : Nat) (he : rowE len W = er) (hx : unpackV zs W = xs) (hn : xs.length = n) :
    Calls Try.prog 45 #[.slice a len cap, .int .i64 W] w fun e w' => ∃ ad c, e = .returned (.tuple #[.slice ad n c, .int .i64 er]) ∧ Ls .i64 w' ad n c xs ∧ Below w.heap.size w w' := by
  refine (unpack_any a len cap zs W w h).mono ?_
  rintro e w' ⟨ad, c, rfl, hr, hb⟩
  rw [hx] at hr ⊢
  rw [hn] at hr ⊢
  rw [he]
  exact ⟨ad, c, rfl, ls_of hn hr, hb⟩
theorem refUnpack_t (a : Option Addr) (len cap : Nat) (zs : List Int) (W : Int) (w : World) (h : Bs w a len cap zs) (er : Int) (xs : List Int) (n : Nat) (he : rowE len W = er) (hx : unpackV zs W = xs) (hn : xs.length = n) :
    Calls Try.prog 46 #[.slice a len cap, .int .i64 W] w fun e w' => ∃ ad c, e = .returned (.tuple #[.slice ad n c, .int .i64 er]) ∧ Ls .i64 w' ad n c xs ∧ Below w.heap.size w w' := by
  refine (refUnpack_any a len cap zs W w h).mono ?_
  rintro e w' ⟨ad, c, rfl, hr, hb⟩
  rw [hx] at hr ⊢
  rw [hn] at hr ⊢
  rw [he]
  exact ⟨ad, c, rfl, ls_of hn hr, hb⟩
theorem pack_t (a : Option Addr) (n cap : Nat) (l : List Int) (w : World) (h : Ls .i64 w a n cap l) (er : Int) (xs : List Int) (m : Nat) (he : packE l = er) (hx : packV l = xs) (hm : xs.length = m) :
    Calls Try.prog 55 #[.slice a n cap] w fun e w' => ∃ ad c, e = .returned (.tuple #[.slice ad m c, .int .i64 er]) ∧ Ls .u8 w' ad m c xs ∧ Below w.heap.size w w' := by
  refine (pack_any a n cap l w h.2.1 h.2.2 h.1).mono ?_
  rintro e w' ⟨ad, c, rfl, hr, hb⟩
  rw [hx] at hr ⊢
  rw [hm] at hr ⊢
  rw [he]
  exact ⟨ad, c, rfl, ls_of hm hr, hb⟩
theorem refPack_t (a : Option Addr) (n cap : Nat) (l : List Int) (w : World) (h : Ls .i64 w a n cap l) (hI : ∀ x ∈ l, -9223372036854775808 ≤ x ∧ x ≤ 9223372036854775807) (er : Int) (xs : List Int) (m : Nat) (he : packE l = er) (hx : packV l = xs) (hm : xs.length = m) :
    Calls Try.prog 56 #[.slice a n cap] w fun e w' => ∃ ad c, e = .returned (.tuple #[.slice ad m c, .int .i64 er]) ∧ Ls .u8 w' ad m c xs ∧ Below w.heap.size w w' := by
  refine (refPack_any a n cap l w (by have := h.2; omega) hI h.1).mono ?_
  rintro e w' ⟨ad, c, rfl, hr, hb⟩
  rw [hx] at hr ⊢
  rw [hm] at hr ⊢
  rw [he]
  exact ⟨ad, c, rfl, ls_of hm hr, hb⟩
theorem ls_t {xs : List Int} {n : Nat} (hn : xs.length = n) {w : World} {e : Ending} {w' : World} (h : LsR xs w e w') : ∃ ad c, e = .returned (.slice ad n c) ∧ Ls .i64 w' ad n c xs ∧ Below w.heap.size w w' := by
  obtain ⟨ad, c, rfl, hr, hb⟩ := h
  rw [hn] at hr ⊢
  exact ⟨ad, c, rfl, ls_of hn hr, hb⟩
theorem ones_I {l : List Int} (h : Ones l) : ∀ x ∈ l, -9223372036854775808 ≤ x ∧ x ≤ 9223372036854775807 := fun x hx => by
  have := h x hx; omega
theorem bs_of {w : World} {ad : Option Addr} {n cap : Nat} {l : List Int} (h : Ls .u8 w ad n cap (packV l)) : Bs w ad n cap (packV l) := ⟨h.1, h.2.1, h.2.2, packV_byte l⟩
theorem ex_pack : packE [1, 0, 1] = 0 ∧ packV [1, 0, 1] = [160] := by
  have hp : packOk [1, 0, 1] = true := by decide
  refine ⟨by unfold packE; rw [hp]; rfl, ?_⟩
  unfold packV
  rw [hp, packB_more (by simp), show List.drop 8 [(1 : Int), 0, 1] = [] from rfl, packB_nil]
  rfl
theorem conv_160 (w : World) : (convert 56 9 (.slice (some ⟨w.heap.size, 0, none⟩) 1 1)).run Try.prog (w.alloc (.cells #[.int .u8 160] 5)) = .ok (.string (strOfNums [160])) (w.alloc (.cells #[.int .u8 160] 5)) :=
  Cv.conv_slk (len := 1) (cap := 1) (ownK_lit (q := .u8) w #[.int .u8 160] 5 [160] rfl).sl
set_option maxRecDepth 100000 in
theorem lives7_any (w : World) : Calls Try.prog 53 #[] w fun e w' => e = .returned (.bool true) ∧ Below w.heap.size w w' := by
  have ho := ownK_lit (q := .i64) w #[.int .i64 1, .int .i64 0, .int .i64 1] 3 [1, 0, 1] rfl
  have HP := Lib.hid (pack_t (some ⟨w.heap.size, 0, none⟩) 3 3 [1, 0, 1] _ ⟨ho.sl, by omega, by omega⟩ 0 [160] 1 ex_pack.1 ex_pack.2 rfl)
  clear ho
  go_enter Try.func53, Try.ntmps53
  go_wp2_with (go_at_call 55; refine HP.out.mono ?_; rintro e w1 ⟨ad, c, rfl, hl, hb⟩; have C1 := Cv.conv_slk (cap := c) hl.1; have C2 := conv_160 w1; have HB := Lib.hid hb; clear hl hb)
  go_ret
  exact ⟨rfl, (bel_step ((Below.refl _ w).alloc (Nat.le_refl _) _) HB.out).alloc (by have := HB.out.size; simp at this; omega) _⟩
end Bt
end Go.Proofs.Ytjjpnipcpnkakaa

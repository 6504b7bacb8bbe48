/- What numbers made 0 or 1, runs, and rows that are cut come to, told as the laws use it. Condition: numbers fit their kinds. -/
import Derived.Test.YtjjpnipcpnkakaaBtS
namespace Go.Proofs.Ytjjpnipcpnkakaa
open Go.RowKit Go.Shelf
set_option linter.unusedVariables false
namespace Bt
theorem ones_t (a : Option Addr) (n cap most : Nat) (l : List Int) (w : World) (h : Ls .i64 w a n cap l) (hm : most ≤ 5000) (xs : List Int) (m : Nat) (hx : onesV l most = xs) (hl : xs.length = m) :
    Calls Try.prog 54 #[.slice a n cap, .int .i64 most] w fun e w' => ∃ ad c, e = .returned (.slice ad m c) ∧ Ls .i64 w' ad m c xs ∧ Below w.heap.size w w' := by
  refine (ones_any a n cap most l w (by have := h.2; omega) hm h.1).mono ?_
  rintro e w' hr
  rw [hx] at hr
  exact ls_t hl hr
/-- what is packed and counted -/
theorem sum_pack {l : List Int} (ho : Ones l) (h1 : 1 ≤ l.length) (h2 : l.length ≤ 4096) : sumV (unpackV (packB l) l.length) = sumV l := by rw [(pack_back ho h1 h2).2.2.2.2.1]
theorem count_t (a : Option Addr) (n cap : Nat) (zs : List Int) (W : Int) (w : World) (h : Bs w a n cap zs) (s : Int) (hs : sumV (unpackV zs W) = s) :
    Calls Try.prog 50 #[.slice a n cap, .int .i64 W] w fun e w' => e = .returned (.int .i64 s) ∧ Below w.heap.size w w' := by
  rw [← hs]; exact count_any a n cap zs W w h
theorem Ls.cut {q : IntKind} {w : World} {ad : Option Addr} {n cap : Nat} {xs : List Int} (h : Ls q w ad n cap xs) (k : Nat) (hk : k ≤ n) : Ls q w ad k cap (xs.take k) := by
  obtain ⟨⟨h1, h2⟩, h3, h4⟩ := h
  refine ⟨⟨by rw [List.length_take]; omega, ?_⟩, by omega, h4⟩
  rcases h2 with h2 | ⟨b, o, ha, hc⟩
  · exact .inl (by omega)
  · refine .inr ⟨b, o, ha, fun i hi => ?_⟩
    rw [hc i (by omega), List.getD_eq_getElem?_getD, List.getD_eq_getElem?_getD, List.getElem?_take_of_lt hi]
/-- its cells, to be appended -/
theorem Ls.news {q : IntKind} {w : World} {ad : Option Addr} {n cap : Nat} {xs : List Int} (h : Ls q w ad n cap xs) (h1 : 1 ≤ n) : ∃ b o, ad = some ⟨b, o, none⟩ ∧ ∀ w', Below w.heap.size w w' → ∀ j v, (xs.map (Value.int q))[j]? = some v → w'.cell? ((⟨b, o, none⟩ : Addr).add j) = some v := by
  obtain ⟨⟨hl, h2⟩, h3, h4⟩ := h
  rcases h2 with h2 | ⟨b, o, ha, hc⟩
  · omega
  · refine ⟨b, o, ha, fun w' hb j v hv => ?_⟩
    have hj : j < xs.length := by have := (List.getElem?_eq_some_iff.1 hv).1; simpa using this
    rw [Addr.add_lit]
    refine cell_later hb ?_
    rw [hc j (by omega)]
    rw [List.getElem?_map, List.getElem?_eq_getElem hj] at hv
    rw [← hv, List.getD_eq_getElem?_getD, List.getElem?_eq_getElem hj]; rfl
theorem owns_pos {A : World} {base n : Nat} {e : TypeId} {size : Nat} {v : Value} {xs : List Value} (h1 : 1 ≤ n) (h : A.ownsRow base e size v n xs) : ∃ g cap, v = .slice (some ⟨g, 0, none⟩) n cap := by
  obtain ⟨m, rfl⟩ : ∃ m, n = m + 1 := ⟨n - 1, by omega⟩
  exact ownsRow_succ h
theorem str_size (xs : List Int) : (strOfNums xs).size = xs.length := by
  show (List.map _ xs).toArray.size = _
  simp
end Bt
end Go.Proofs.Ytjjpnipcpnkakaa

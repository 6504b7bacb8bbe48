/- What Unpack, May, Format and Fits come to, over any memory, of pix and of the document's own answer. Condition: numbers fit their kinds. -/
import Derived.Test.YteonfgphihacgaaQPixA
namespace Go.Proofs.Yteonfgphihacgaa
open Go.RowKit
set_option linter.unusedVariables false
namespace Pq
/-- Integers in memory of the call's own. -/
def Own (base : Nat) (w : World) (ad : Option Addr) (zs : List Int) : Prop :=
  zs = [] ∨ ∃ g, ad = some ⟨g, 0, none⟩ ∧ base ≤ g ∧ g < w.heap.size ∧ (∀ i, i < zs.length → w.cell? ⟨g, i, none⟩ = some (.int .i64 (zs.getD i 0))) ∧ (∀ i, i < zs.length → w.frozen? ⟨g, i, none⟩ = false)
theorem Own.sl {base : Nat} {w : World} {ad : Option Addr} {zs : List Int} (h : Own base w ad zs) : Sl w ad zs.length zs := by
  refine ⟨rfl, ?_⟩
  rcases h with rfl | ⟨g, h1, _, _, h2, _⟩
  · exact .inl rfl
  · exact .inr ⟨g, 0, h1, fun i hi => by simpa using h2 i hi⟩
theorem Own.mono {base base' : Nat} {w : World} {ad : Option Addr} {zs : List Int} (h : Own base w ad zs) (hb : base' ≤ base) : Own base' w ad zs := by
  rcases h with h | ⟨g, h1, h2, h3⟩
  · exact .inl h
  · exact .inr ⟨g, h1, Nat.le_trans hb h2, h3⟩
theorem Own.later {base : Nat} {w w' : World} {ad : Option Addr} {zs : List Int} (h : Own base w ad zs) (hb : Below w.heap.size w w') : Own base w' ad zs := by
  rcases h with rfl | ⟨g, h1, h2, h3, h4, h5⟩
  · exact .inl rfl
  · exact .inr ⟨g, h1, h2, by have := hb.size; omega, fun i hi => cell_later hb (h4 i hi), fun i hi => by rw [hb.frozen (p := ⟨g, i, none⟩) h3]; exact h5 i hi⟩
theorem own_row {base : Nat} {w : World} {v : Value} {n : Nat} {zs : List Int} (hn : zs.length = n) (h : w.ownsRow base 3 1 v n (zs.map (Value.int .i64))) :
    ∃ ad cap, v = .slice ad n cap ∧ Own base w ad zs := by
  have H := h
  obtain ⟨h1, h2⟩ := h
  rcases h2 with ⟨rfl, rfl⟩ | ⟨g, cap, cur, rfl, hb, hg, hle, hm, hsz, htk⟩
  · exact ⟨none, 0, rfl, .inl (by cases zs with | nil => rfl | cons => simp at hn)⟩
  · refine ⟨_, cap, rfl, .inr ⟨g, rfl, hb, (H.lt g rfl).2, fun i hi => ?_, fun i hi => H.frozenAt i⟩⟩
    have hi' : i < (zs.map (Value.int .i64)).length := by simpa using hi
    have e : cur[i]? = some (.int .i64 (zs.getD i 0)) := by
      have : (zs.map (Value.int .i64))[i]? = some (.int .i64 (zs.getD i 0)) := by
        rw [List.getElem?_map, List.getElem?_eq_getElem hi, List.getD_eq_getElem?_getD, List.getElem?_eq_getElem hi]; rfl
      rw [← htk, List.getElem?_take_of_lt (by simp at hi'; omega)] at this
      simpa using this
    simp [World.cell?, hg, e]
theorem own_lit (w : World) (cs : Array Value) (zs : List Int) (h : cs.toList = zs.map (Value.int .i64)) : Own w.heap.size (w.alloc (.cells cs 3)) (some ⟨w.heap.size, 0, none⟩) zs := by
  refine .inr ⟨w.heap.size, rfl, Nat.le_refl _, by simp, fun i hi => ?_, fun i hi => by simp [go_sem]⟩
  rw [World.cell?_alloc_at _ _ _ _ rfl]
  have : cs[i]? = cs.toList[i]? := by simp
  rw [this, h, List.getElem?_map, List.getElem?_eq_getElem hi, List.getD_eq_getElem?_getD, List.getElem?_eq_getElem hi]; rfl
/-- a result that is a slice of one's own -/
def OutSl (w : World) (zs : List Int) (e : Ending) (w' : World) : Prop :=
  ∃ ad cap, e = .returned (.slice ad zs.length cap) ∧ Own w.heap.size w' ad zs ∧ Below w.heap.size w w'

theorem addr_add (b off j : Nat) : (⟨b, off, none⟩ : Addr).add j = ⟨b, off + j, none⟩ := by cases j <;> simp [Addr.add]
theorem Try.info_int : (Try.prog.info? 3).map (fun i => (i.zero, i.size, i.bytes)) = some (some (.int .i64 0), 1, 8) := by kernel_rfl

theorem refUnpack_any (p : Int) (hU : Px.U p) (w : World) :
    Calls Try.prog 94 #[.int .u64 p] w (OutSl w (Px.smp p)) := by
  rcases Px.tri hU with ⟨a, b, c, h⟩ | ⟨a, h⟩ | h
  · have X := Lib.hid (Px.smp3 h)
    obtain ⟨hp, ha0, ha1, hb0, hb1, hc0, hc1⟩ := h
    have k3 : (p / 281474976710656 == 3) = true := by rw [beq_iff_eq]; omega
    have e1 : 0 ≤ p % 281474976710656 := by omega
    have e2 : p % 281474976710656 < 281474976710656 := by omega
    have x := Lib.hid (show [p % 281474976710656 / 4294967296, p % 281474976710656 / 65536 % 65536, p % 65536] = [a, b, c] by rw [show p % 281474976710656 / 4294967296 = a by omega, show p % 281474976710656 / 65536 % 65536 = b by omega, show p % 65536 = c by omega])
    obtain ⟨h0, h1⟩ := hU
    clear hp
    go_enter Try.func94, Try.ntmps94
    go_wp2
    go_ret
    exact ⟨_, 3, by rw [X.out]; rfl, by rw [X.out, ← x.out]; exact own_lit w _ _ rfl, (Below.refl _ _).alloc (Nat.le_refl _) _⟩
  · have X := Lib.hid (Px.smp1 h)
    obtain ⟨hp, ha0, ha1⟩ := h
    have k3 : (p / 281474976710656 == 3) = false := by rw [beq_eq_false_iff_ne]; omega
    have k1 : (p / 281474976710656 == 1) = true := by rw [beq_iff_eq]; omega
    have e1 : 0 ≤ p % 281474976710656 := by omega
    have e2 : p % 281474976710656 < 65536 := by omega
    have x := Lib.hid (show [p % 281474976710656] = [a] by rw [show p % 281474976710656 = a by omega])
    obtain ⟨h0, h1⟩ := hU
    clear hp
    go_enter Try.func94, Try.ntmps94
    go_wp2
    go_ret
    exact ⟨_, 1, by rw [X.out]; rfl, by rw [X.out, ← x.out]; exact own_lit w _ _ rfl, (Below.refl _ _).alloc (Nat.le_refl _) _⟩
  · have X := Lib.hid (Px.smp0 h)
    obtain ⟨h3, h2⟩ := h
    unfold Px.hiP at h3 h2
    unfold Px.loP at h2
    obtain ⟨h0, h1⟩ := hU
    have k3 : (p / 281474976710656 == 3) = false := by rw [beq_eq_false_iff_ne]; omega
    have e1 : 0 ≤ p % 281474976710656 := by omega
    have e2 : p % 281474976710656 < 281474976710656 := by omega
    by_cases hh : p / 281474976710656 = 1
    · have k1 : (p / 281474976710656 == 1) = true := by rw [beq_iff_eq]; omega
      have e3 : ¬ p % 281474976710656 < 65536 := by omega
      clear h3 h2 hh
      go_enter Try.func94, Try.ntmps94
      go_wp2
      go_ret
      exact ⟨none, 0, by rw [X.out]; rfl, by rw [X.out]; exact .inl rfl, Below.refl _ _⟩
    · have k1 : (p / 281474976710656 == 1) = false := by rw [beq_eq_false_iff_ne]; omega
      clear h3 h2 hh
      go_enter Try.func94, Try.ntmps94
      go_wp2
      go_ret
      exact ⟨none, 0, by rw [X.out]; rfl, by rw [X.out]; exact .inl rfl, Below.refl _ _⟩

end Pq
end Go.Proofs.Yteonfgphihacgaa

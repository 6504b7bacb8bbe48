/- What Unpack, May, Format and Fits come to, over any memory, of pix and of the document's own answer. Condition: numbers fit their kinds. -/
import Derived.Test.YtldhhhmihfcalaaQPixA
namespace Go.Proofs.Ytldhhhmihfcalaa
open Go.RowKit
set_option linter.unusedVariables false
namespace Pq
/-- Integers in memory of the call's own. -/
def Own (base : Nat) (w : World) (ad : Option Addr) (zs : List Int) : Prop :=
  zs = [] ∨ ∃ g, ad = some ⟨g, 0, none⟩ ∧ base ≤ g ∧ g < w.heap.size ∧ (∀ i, i < zs.length → w.cell? ⟨g, i, none⟩ = some (.int .i64 (zs.getD i 0))) ∧ (∀ i, i < zs.length → w.frozen? ⟨g, i, none⟩ = false)
theorem Own.sl {base : Nat} {w : World} {ad : Option Addr} {zs : List Int} (h : Own base w ad zs) : Sl w ad zs.length zs := by
  refine ⟨rfl, ?_⟩
  rcases h with rfl | ⟨g, h1, _, _, h2, _⟩
  · exact .inl rfl
  · exact .inr ⟨g, 0, h1, fun i hi => by simpa using h2 i hi⟩
theorem Own.mono {base base' : Nat} {w : World} {ad : Option Addr} {zs : List Int} (h : Own base w ad zs) (hb : base' ≤ base) : Own base' w ad zs := by
  rcases h with h | ⟨g, h1, h2, h3⟩
  · exact .inl h
  · exact .inr ⟨g, h1, Nat.le_trans hb h2, h3⟩
theorem Own.later {base : Nat} {w w' : World} {ad : Option Addr} {zs : List Int} (h : Own base w ad zs) (hb : Below w.heap.size w w') : Own base w' ad zs := by
  rcases h with rfl | ⟨g, h1, h2, h3, h4, h5⟩
  · exact .inl rfl
  · exact .inr ⟨g, h1, h2, by have := hb.size; omega, fun i hi => cell_later hb (h4 i hi), fun i hi => by rw [hb.frozen (p := ⟨g, i, none⟩) h3]; exact h5 i hi⟩
theorem own_row {base : Nat} {w : World} {v : Value} {n : Nat} {zs : List Int} (hn : zs.length = n) (h : w.ownsRow base 3 1 v n (zs.map (Value.int .i64))) :
    ∃ ad cap, v = .slice ad n cap ∧ Own base w ad zs := by
  have H := h
  obtain ⟨h1, h2⟩ := h
  rcases h2 with ⟨rfl, rfl⟩ | ⟨g, cap, cur, rfl, hb, hg, hle, hm, hsz, htk⟩
  · exact ⟨none, 0, rfl, .inl (by cases zs with | nil => rfl | cons => simp at hn)⟩
  · refine ⟨_, cap, rfl, .inr ⟨g, rfl, hb, (H.lt g rfl).2, fun i hi => ?_, fun i hi => H.frozenAt i⟩⟩
    have hi' : i < (zs.map (Value.int .i64)).length := by simpa using hi
    have e : cur[i]? = some (.int .i64 (zs.getD i 0)) := by
      have : (zs.map (Value.int .i64))[i]? = some (.int .i64 (zs.getD i 0)) := by
        rw [List.getElem?_map, List.getElem?_eq_getElem hi, List.getD_eq_getElem?_getD, List.getElem?_eq_getElem hi]; rfl
      rw [← htk, List.getElem?_take_of_lt (by simp at hi'; omega)] at this
      simpa using this
    simp [World.cell?, hg, e]
theorem own_lit (w : World) (cs : Array Value) (zs : List Int) (h : cs.toList = zs.map (Value.int .i64)) : Own w.heap.size (w.alloc (.cells cs 3)) (some ⟨w.heap.size, 0, none⟩) zs := by
  refine .inr ⟨w.heap.size, rfl, Nat.le_refl _, by simp, fun i hi => ?_, fun i hi => by simp [go_sem]⟩
  rw [World.cell?_alloc_at _ _ _ _ rfl]
  have : cs[i]? = cs.toList[i]? := by simp
  rw [this, h, List.getElem?_map, List.getElem?_eq_getElem hi, List.getD_eq_getElem?_getD, List.getElem?_eq_getElem hi]; rfl
/-- a result that is a slice of one's own -/
def OutSl (w : World) (zs : List Int) (e : Ending) (w' : World) : Prop :=
  ∃ ad cap, e = .returned (.slice ad zs.length cap) ∧ Own w.heap.size w' ad zs ∧ Below w.heap.size w w'

theorem addr_add (b off j : Nat) : (⟨b, off, none⟩ : Addr).add j = ⟨b, off + j, none⟩ := by cases j <;> simp [Addr.add]
theorem Try.info_int : (Try.prog.info? 3).map (fun i => (i.zero, i.size, i.bytes)) = some (some (.int .i64 0), 1, 8) := by kernel_rfl

theorem clone_some (b off len cap : Nat) (zs : List Int) (w : World) (hz : zs.length = len) (hlen : len * 8 ≤ 140737488355328)
    (hc : ∀ i, i < len → w.cell? ⟨b, off + i, none⟩ = some (.int .i64 (zs.getD i 0))) :
    Calls Try.prog 120 #[.slice (some ⟨b, off, none⟩) len cap] w (OutSl w zs) := by
  obtain ⟨i0, hi, hz0, hz1, hz2⟩ := info_parts Try.info_int
  have hn := Lib.run_eql_slice_nil (P := Try.prog)
  have hni : ∀ i, (zs.map (Value.int .i64))[i]? = (zs[i]?).map (Value.int .i64) := fun i => List.getElem?_map ..
  have HN := Lib.hid hni; clear hni
  have HC := Lib.hid hc; clear hc
  have hb1 : len ≤ maxLen := by unfold maxLen; omega
  have HZ := Lib.hid hz; clear hz
  by_cases h0 : len = 0
  · subst h0
    have hz' : zs = [] := List.eq_nil_of_length_eq_zero HZ.out
    subst hz'
    go_enter Try.func120, Try.ntmps120
    go_wp2_with (at_builtin; refine wpList_append_fits _ rfl (.tmp 5) (.tmp 6) 75 rfl w.heap.size 3 i0 1 Try.underlying75 hi hz1 w.heap.size 0 0 [] rfl ?own ⟨b, off, none⟩ 0 cap [] rfl rfl ?c1 ?c2 (Nat.le_refl _) ?grow)
    case own => exact World.ownsRow_made w #[] 0 (Nat.le_refl _) (by unfold maxLen; omega) rfl
    case c1 => intro j u hj; simp at hj
    case c2 => intro u hu; simp at hu
    case grow =>
      intro w' hown hgrow
      go_wp2
      go_ret
      exact ⟨_, 0, rfl, .inl rfl, ((Below.refl _ _).alloc (Nat.le_refl _) _).grown hgrow (by simp) (fun k h => by cases h; exact Nat.le_refl _)⟩
  · go_enter Try.func120, Try.ntmps120
    go_wp2_with (at_builtin; refine wpList_append_grows _ rfl (.tmp 5) (.tmp 6) 75 rfl 3 i0 (.int .i64 0) 1 8 Try.underlying75 hi hz0 hz1 hz2 rfl (by decide) (some ⟨w.heap.size, 0, none⟩) 0 0 [] rfl (fun h => by cases h) rfl (by intro _ _ _ _ h; simp at h) ⟨b, off, none⟩ len cap (zs.map (Value.int .i64)) rfl ?c0 ?c1 ?c2 ?b0 ?b1 ?b2 ?grow)
    case c0 => simpa using HZ.out
    case c1 =>
      intro j u hj
      rw [HN.out] at hj
      have hj' : j < zs.length := by
        rcases Nat.lt_or_ge j zs.length with h | h
        · exact h
        · rw [List.getElem?_eq_none h] at hj; cases hj
      have hj2 : u = .int .i64 (zs.getD j 0) := by
        rw [List.getElem?_eq_getElem hj'] at hj
        rw [List.getD_eq_getElem?_getD, List.getElem?_eq_getElem hj']; simpa using hj.symm
      rw [hj2]
      have := HC.out j (by rw [← HZ.out]; exact hj')
      have hbb : b < w.heap.size := block_lt_of_cell this
      rw [addr_add, World.cell?_alloc_past _ _ _ hbb]
      exact this
    case c2 => intro u hu; simp at hu; obtain ⟨n, _, rfl⟩ := hu; rfl
    case b0 => omega
    case b1 => omega
    case b2 => omega
    case grow =>
      intro v' w' hown hgrow
      go_wp2
      go_ret
      have hbel : Below w.heap.size w w' := ((Below.refl _ _).alloc (Nat.le_refl _) _).grown hgrow (by simp) (fun k h => by cases h)
      obtain ⟨ad, cp, hv, ho⟩ := own_row (zs := zs) (n := 0 + len) (by rw [HZ.out]; omega) (by simpa using hown)
      have e := HZ.out
      refine ⟨ad, cp, ?_, ho.mono (by simp), hbel⟩
      rw [e, ← Nat.zero_add len, ← hv]; rfl

theorem unpack_any (p : Int) (hU : Px.U p) (w : World) :
    Calls Try.prog 93 #[.int .u64 p] w (OutSl w (Px.smp p)) := by
  rcases Px.tri hU with ⟨a, b, c, h⟩ | ⟨a, h⟩ | h
  · have X := Lib.hid (Px.smp3 h)
    go_enter Try.func93, Try.ntmps93
    go_wp2_with (go_at_call 119; refine (split3 p a b c h _).mono ?_; rintro e w1 ⟨rfl, hb1⟩)
    refine (clone_some _ 0 3 _ [a, b, c] _ rfl (by omega) ?_).mono ?_
    · intro i hi
      obtain rfl | rfl | rfl : i = 0 ∨ i = 1 ∨ i = 2 := by omega
      all_goals simp [go_sem]
    rintro e w2 ⟨ad, cap, rfl, ho, hb2⟩
    go_wp2
    go_ret
    refine ⟨ad, cap, by rw [X.out]; rfl, by rw [X.out]; exact ho.mono (by have := hb1.size; simp; omega), ?_⟩
    exact ((hb1.alloc (by have := hb1.size; omega) _).trans (hb2.mono (B' := w.heap.size) (by have := hb1.size; simp; omega)))
  · have X := Lib.hid (Px.smp1 h)
    go_enter Try.func93, Try.ntmps93
    go_wp2_with (go_at_call 119; refine (split1 p a h _).mono ?_; rintro e w1 ⟨rfl, hb1⟩)
    refine (clone_some _ 0 1 _ [a] _ rfl (by omega) ?_).mono ?_
    · intro i hi
      obtain rfl : i = 0 := by omega
      all_goals simp [go_sem]
    rintro e w2 ⟨ad, cap, rfl, ho, hb2⟩
    go_wp2
    go_ret
    refine ⟨ad, cap, by rw [X.out]; rfl, by rw [X.out]; exact ho.mono (by have := hb1.size; simp; omega), ?_⟩
    exact ((hb1.alloc (by have := hb1.size; omega) _).trans (hb2.mono (B' := w.heap.size) (by have := hb1.size; simp; omega)))
  · have X := Lib.hid (Px.smp0 h)
    go_enter Try.func93, Try.ntmps93
    go_wp2_with (go_at_call 119; refine (split0 p hU h _).mono ?_; rintro e w1 ⟨rfl, hb1⟩)
    refine (clone_some _ 0 0 _ [] _ rfl (by omega) ?_).mono ?_
    · intro i hi
      omega
      
    rintro e w2 ⟨ad, cap, rfl, ho, hb2⟩
    go_wp2
    go_ret
    refine ⟨ad, cap, by rw [X.out]; rfl, by rw [X.out]; exact ho.mono (by have := hb1.size; simp; omega), ?_⟩
    exact ((hb1.alloc (by have := hb1.size; omega) _).trans (hb2.mono (B' := w.heap.size) (by have := hb1.size; simp; omega)))


theorem refUnpack_any (p : Int) (hU : Px.U p) (w : World) :
    Calls Try.prog 54 #[.int .u64 p] w (OutSl w (Px.smp p)) := by
  rcases Px.tri hU with ⟨a, b, c, h⟩ | ⟨a, h⟩ | h
  · have X := Lib.hid (Px.smp3 h)
    obtain ⟨hp, ha0, ha1, hb0, hb1, hc0, hc1⟩ := h
    have k3 : (p / 281474976710656 == 3) = true := by rw [beq_iff_eq]; omega
    have e1 : 0 ≤ p % 281474976710656 := by omega
    have e2 : p % 281474976710656 < 281474976710656 := by omega
    have x := Lib.hid (show [p % 281474976710656 / 4294967296, p % 281474976710656 / 65536 % 65536, p % 65536] = [a, b, c] by rw [show p % 281474976710656 / 4294967296 = a by omega, show p % 281474976710656 / 65536 % 65536 = b by omega, show p % 65536 = c by omega])
    obtain ⟨h0, h1⟩ := hU
    clear hp
    go_enter Try.func54, Try.ntmps54
    go_wp2
    go_ret
    exact ⟨_, 3, by rw [X.out]; rfl, by rw [X.out, ← x.out]; exact own_lit w _ _ rfl, (Below.refl _ _).alloc (Nat.le_refl _) _⟩
  · have X := Lib.hid (Px.smp1 h)
    obtain ⟨hp, ha0, ha1⟩ := h
    have k3 : (p / 281474976710656 == 3) = false := by rw [beq_eq_false_iff_ne]; omega
    have k1 : (p / 281474976710656 == 1) = true := by rw [beq_iff_eq]; omega
    have e1 : 0 ≤ p % 281474976710656 := by omega
    have e2 : p % 281474976710656 < 65536 := by omega
    have x := Lib.hid (show [p % 281474976710656] = [a] by rw [show p % 281474976710656 = a by omega])
    obtain ⟨h0, h1⟩ := hU
    clear hp
    go_enter Try.func54, Try.ntmps54
    go_wp2
    go_ret
    exact ⟨_, 1, by rw [X.out]; rfl, by rw [X.out, ← x.out]; exact own_lit w _ _ rfl, (Below.refl _ _).alloc (Nat.le_refl _) _⟩
  · have X := Lib.hid (Px.smp0 h)
    obtain ⟨h3, h2⟩ := h
    unfold Px.hiP at h3 h2
    unfold Px.loP at h2
    obtain ⟨h0, h1⟩ := hU
    have k3 : (p / 281474976710656 == 3) = false := by rw [beq_eq_false_iff_ne]; omega
    have e1 : 0 ≤ p % 281474976710656 := by omega
    have e2 : p % 281474976710656 < 281474976710656 := by omega
    by_cases hh : p / 281474976710656 = 1
    · have k1 : (p / 281474976710656 == 1) = true := by rw [beq_iff_eq]; omega
      have e3 : ¬ p % 281474976710656 < 65536 := by omega
      clear h3 h2 hh
      go_enter Try.func54, Try.ntmps54
      go_wp2
      go_ret
      exact ⟨none, 0, by rw [X.out]; rfl, by rw [X.out]; exact .inl rfl, Below.refl _ _⟩
    · have k1 : (p / 281474976710656 == 1) = false := by rw [beq_eq_false_iff_ne]; omega
      clear h3 h2 hh
      go_enter Try.func54, Try.ntmps54
      go_wp2
      go_ret
      exact ⟨none, 0, by rw [X.out]; rfl, by rw [X.out]; exact .inl rfl, Below.refl _ _⟩

end Pq
end Go.Proofs.Ytldhhhmihfcalaa

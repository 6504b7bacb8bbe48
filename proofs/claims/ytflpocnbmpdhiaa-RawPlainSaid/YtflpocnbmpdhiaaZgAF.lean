/- What Unpack, May, Format and Fits come to, over any memory, of pix and of the document's own answer. Condition: numbers fit their kinds. -/
import Derived.Test.YtflpocnbmpdhiaaZgAB
import Derived.Deep.RegionHeld3
import Derived.Deep.DrawnRows
import Derived.Deep.QuietTactic
import Derived.BigQuiet
import Derived.Deep.RegionWith
import Derived.Test.YtflpocnbmpdhiaaZgAA
import Derived.Test.YtflpocnbmpdhiaaZBtH
import Derived.Test.YtflpocnbmpdhiaaProg
import Derived.LoopN
import Derived.Laws.BitsAllLaws
import Derived.WalkKit
import Derived.WalkSpells
import Derived.WalkLawsBesides
import Derived.Deep.LoopGhost
import Derived.RegionTactic
import Derived.Lib.Walk
import Derived.Sort.WalkB12
import Derived.Lib.SlicesMore
import Derived.Lib.OwnBridge
import Derived.Handy
import Derived.Lib.Hide
import Derived.OwnWalkIn
import Derived.TacticsInMore
import Derived.LoopNIn
import Derived.LoopIn
namespace Go.Proofs.Ytflpocnbmpdhiaa
open Go.RowKit
set_option linter.unusedVariables false
namespace Pq
/-- Integers in memory of the call's own. -/
def Own (base : Nat) (w : World) (ad : Option Addr) (zs : List Int) : Prop :=
  zs = [] ∨ ∃ g, ad = some ⟨g, 0, none⟩ ∧ base ≤ g ∧ g < w.heap.size ∧ (∀ i, i < zs.length → w.cell? ⟨g, i, none⟩ = some (.int .i64 (zs.getD i 0))) ∧ (∀ i, i < zs.length → w.frozen? ⟨g, i, none⟩ = false)
theorem Own.sl {base : Nat} {w : World} {ad : Option Addr} {zs : List Int} (h : Own base w ad zs) : Sl w ad zs.length zs := by
  refine ⟨rfl, ?_⟩
  rcases h with rfl | ⟨g, h1, _, _, h2, _⟩
  · exact .inl rfl
  · exact .inr ⟨g, 0, h1, fun i hi => by simpa using h2 i hi⟩
theorem Own.mono {base base' : Nat} {w : World} {ad : Option Addr} {zs : List Int} (h : Own base w ad zs) (hb : base' ≤ base) : Own base' w ad zs := by
  rcases h with h | ⟨g, h1, h2, h3⟩
  · exact .inl h
  · exact .inr ⟨g, h1, Nat.le_trans hb h2, h3⟩
theorem Own.later {base : Nat} {w w' : World} {ad : Option Addr} {zs : List Int} (h : Own base w ad zs) (hb : Below w.heap.size w w') : Own base w' ad zs := by
  rcases h with rfl | ⟨g, h1, h2, h3, h4, h5⟩
  · exact .inl rfl
  · exact .inr ⟨g, h1, h2, by have := hb.size; omega, fun i hi => cell_later hb (h4 i hi), fun i hi => by rw [hb.frozen (p := ⟨g, i, none⟩) h3]; exact h5 i hi⟩
theorem own_row {base : Nat} {w : World} {v : Value} {n : Nat} {zs : List Int} (hn : zs.length = n) (h : w.ownsRow base 3 1 v n (zs.map (Value.int .i64))) :
    ∃ ad cap, v = .slice ad n cap ∧ Own base w ad zs := by
  have H := h
  obtain ⟨h1, h2⟩ := h
  rcases h2 with ⟨rfl, rfl⟩ | ⟨g, cap, cur, rfl, hb, hg, hle, hm, hsz, htk⟩
  · exact ⟨none, 0, rfl, .inl (by cases zs with | nil => rfl | cons => simp at hn)⟩
  · refine ⟨_, cap, rfl, .inr ⟨g, rfl, hb, (H.lt g rfl).2, fun i hi => ?_, fun i hi => H.frozenAt i⟩⟩
    have hi' : i < (zs.map (Value.int .i64)).length := by simpa using hi
    have e : cur[i]? = some (.int .i64 (zs.getD i 0)) := by
      have : (zs.map (Value.int .i64))[i]? = some (.int .i64 (zs.getD i 0)) := by
        rw [List.getElem?_map, List.getElem?_eq_getElem hi, List.getD_eq_getElem?_getD, List.getElem?_eq_getElem hi]; rfl
      rw [← htk, List.getElem?_take_of_lt (by simp at hi'; omega)] at this
      simpa using this
    simp [World.cell?, hg, e]
theorem own_lit (w : World) (cs : Array Value) (zs : List Int) (h : cs.toList = zs.map (Value.int .i64)) : Own w.heap.size (w.alloc (.cells cs 3)) (some ⟨w.heap.size, 0, none⟩) zs := by
  refine .inr ⟨w.heap.size, rfl, Nat.le_refl _, by simp, fun i hi => ?_, fun i hi => by simp [go_sem]⟩
  rw [World.cell?_alloc_at _ _ _ _ rfl]
  have : cs[i]? = cs.toList[i]? := by simp
  rw [this, h, List.getElem?_map, List.getElem?_eq_getElem hi, List.getD_eq_getElem?_getD, List.getElem?_eq_getElem hi]; rfl
/-- a result that is a slice of one's own -/
def OutSl (w : World) (zs : List Int) (e : Ending) (w' : World) : Prop :=
  ∃ ad cap, e = .returned (.slice ad zs.length cap) ∧ Own w.heap.size w' ad zs ∧ Below w.heap.size w w'

theorem addr_add (b off j : Nat) : (⟨b, off, none⟩ : Addr).add j = ⟨b, off + j, none⟩ := by cases j <;> simp [Addr.add]
theorem Try.info_int : (Try.prog.info? 3).map (fun i => (i.zero, i.size, i.bytes)) = some (some (.int .i64 0), 1, 8) := by kernel_rfl

theorem clone_some (b off len cap : Nat) (zs : List Int) (w : World) (hz : zs.length = len) (hlen : len * 8 ≤ 140737488355328)
    (hc : ∀ i, i < len → w.cell? ⟨b, off + i, none⟩ = some (.int .i64 (zs.getD i 0))) :
    Calls Try.prog 113 #[.slice (some ⟨b, off, none⟩) len cap] w (OutSl w zs) := by
  obtain ⟨i0, hi, hz0, hz1, hz2⟩ := info_parts Try.info_int
  have hn := Lib.run_eql_slice_nil (P := Try.prog)
  have hni : ∀ i, (zs.map (Value.int .i64))[i]? = (zs[i]?).map (Value.int .i64) := fun i => List.getElem?_map ..
  have HN := Lib.hid hni; clear hni
  have HC := Lib.hid hc; clear hc
  have hb1 : len ≤ maxLen := by unfold maxLen; omega
  have HZ := Lib.hid hz; clear hz
  by_cases h0 : len = 0
  · subst h0
    have hz' : zs = [] := List.eq_nil_of_length_eq_zero HZ.out
    subst hz'
    go_enter Try.func113, Try.ntmps113
    go_wp2_with (at_builtin; refine wpList_append_fits _ rfl (.tmp 5) (.tmp 6) 69 rfl w.heap.size 3 i0 1 Try.underlying69 hi hz1 w.heap.size 0 0 [] rfl ?own ⟨b, off, none⟩ 0 cap [] rfl rfl ?c1 ?c2 (Nat.le_refl _) ?grow)
    case own => exact World.ownsRow_made w #[] 0 (Nat.le_refl _) (by unfold maxLen; omega) rfl
    case c1 => intro j u hj; simp at hj
    case c2 => intro u hu; simp at hu
    case grow =>
      intro w' hown hgrow
      go_wp2
      go_ret
      exact ⟨_, 0, rfl, .inl rfl, ((Below.refl _ _).alloc (Nat.le_refl _) _).grown hgrow (by simp) (fun k h => by cases h; exact Nat.le_refl _)⟩
  · go_enter Try.func113, Try.ntmps113
    go_wp2_with (at_builtin; refine wpList_append_grows _ rfl (.tmp 5) (.tmp 6) 69 rfl 3 i0 (.int .i64 0) 1 8 Try.underlying69 hi hz0 hz1 hz2 rfl (by decide) (some ⟨w.heap.size, 0, none⟩) 0 0 [] rfl (fun h => by cases h) rfl (by intro _ _ _ _ h; simp at h) ⟨b, off, none⟩ len cap (zs.map (Value.int .i64)) rfl ?c0 ?c1 ?c2 ?b0 ?b1 ?b2 ?grow)
    case c0 => simpa using HZ.out
    case c1 =>
      intro j u hj
      rw [HN.out] at hj
      have hj' : j < zs.length := by
        rcases Nat.lt_or_ge j zs.length with h | h
        · exact h
        · rw [List.getElem?_eq_none h] at hj; cases hj
      have hj2 : u = .int .i64 (zs.getD j 0) := by
        rw [List.getElem?_eq_getElem hj'] at hj
        rw [List.getD_eq_getElem?_getD, List.getElem?_eq_getElem hj']; simpa using hj.symm
      rw [hj2]
      have := HC.out j (by rw [← HZ.out]; exact hj')
      have hbb : b < w.heap.size := block_lt_of_cell this
      rw [addr_add, World.cell?_alloc_past _ _ _ hbb]
      exact this
    case c2 => intro u hu; simp at hu; obtain ⟨n, _, rfl⟩ := hu; rfl
    case b0 => omega
    case b1 => omega
    case b2 => omega
    case grow =>
      intro v' w' hown hgrow
      go_wp2
      go_ret
      have hbel : Below w.heap.size w w' := ((Below.refl _ _).alloc (Nat.le_refl _) _).grown hgrow (by simp) (fun k h => by cases h)
      obtain ⟨ad, cp, hv, ho⟩ := own_row (zs := zs) (n := 0 + len) (by rw [HZ.out]; omega) (by simpa using hown)
      have e := HZ.out
      refine ⟨ad, cp, ?_, ho.mono (by simp), hbel⟩
      rw [e, ← Nat.zero_add len, ← hv]; rfl

theorem unpack_any (p : Int) (hU : Px.U p) (w : World) :
    Calls Try.prog 95 #[.int .u64 p] w (OutSl w (Px.smp p)) := by
  rcases Px.tri hU with ⟨a, b, c, h⟩ | ⟨a, h⟩ | h
  · have X := Lib.hid (Px.smp3 h)
    go_enter Try.func95, Try.ntmps95
    go_wp2_with (go_at_call 110; refine (split3 p a b c h _).mono ?_; rintro e w1 ⟨rfl, hb1⟩)
    refine (clone_some _ 0 3 _ [a, b, c] _ rfl (by omega) ?_).mono ?_
    · intro i hi
      obtain rfl | rfl | rfl : i = 0 ∨ i = 1 ∨ i = 2 := by omega
      all_goals simp [go_sem]
    rintro e w2 ⟨ad, cap, rfl, ho, hb2⟩
    go_wp2
    go_ret
    refine ⟨ad, cap, by rw [X.out]; rfl, by rw [X.out]; exact ho.mono (by have := hb1.size; simp; omega), ?_⟩
    exact ((hb1.alloc (by have := hb1.size; omega) _).trans (hb2.mono (B' := w.heap.size) (by have := hb1.size; simp; omega)))
  · have X := Lib.hid (Px.smp1 h)
    go_enter Try.func95, Try.ntmps95
    go_wp2_with (go_at_call 110; refine (split1 p a h _).mono ?_; rintro e w1 ⟨rfl, hb1⟩)
    refine (clone_some _ 0 1 _ [a] _ rfl (by omega) ?_).mono ?_
    · intro i hi
      obtain rfl : i = 0 := by omega
      all_goals simp [go_sem]
    rintro e w2 ⟨ad, cap, rfl, ho, hb2⟩
    go_wp2
    go_ret
    refine ⟨ad, cap, by rw [X.out]; rfl, by rw [X.out]; exact ho.mono (by have := hb1.size; simp; omega), ?_⟩
    exact ((hb1.alloc (by have := hb1.size; omega) _).trans (hb2.mono (B' := w.heap.size) (by have := hb1.size; simp; omega)))
  · have X := Lib.hid (Px.smp0 h)
    go_enter Try.func95, Try.ntmps95
    go_wp2_with (go_at_call 110; refine (split0 p hU h _).mono ?_; rintro e w1 ⟨rfl, hb1⟩)
    refine (clone_some _ 0 0 _ [] _ rfl (by omega) ?_).mono ?_
    · intro i hi
      omega
      
    rintro e w2 ⟨ad, cap, rfl, ho, hb2⟩
    go_wp2
    go_ret
    refine ⟨ad, cap, by rw [X.out]; rfl, by rw [X.out]; exact ho.mono (by have := hb1.size; simp; omega), ?_⟩
    exact ((hb1.alloc (by have := hb1.size; omega) _).trans (hb2.mono (B' := w.heap.size) (by have := hb1.size; simp; omega)))


theorem refUnpack_any (p : Int) (hU : Px.U p) (w : World) :
    Calls Try.prog 70 #[.int .u64 p] w (OutSl w (Px.smp p)) := by
  rcases Px.tri hU with ⟨a, b, c, h⟩ | ⟨a, h⟩ | h
  · have X := Lib.hid (Px.smp3 h)
    obtain ⟨hp, ha0, ha1, hb0, hb1, hc0, hc1⟩ := h
    have k3 : (p / 281474976710656 == 3) = true := by rw [beq_iff_eq]; omega
    have e1 : 0 ≤ p % 281474976710656 := by omega
    have e2 : p % 281474976710656 < 281474976710656 := by omega
    have x := Lib.hid (show [p % 281474976710656 / 4294967296, p % 281474976710656 / 65536 % 65536, p % 65536] = [a, b, c] by rw [show p % 281474976710656 / 4294967296 = a by omega, show p % 281474976710656 / 65536 % 65536 = b by omega, show p % 65536 = c by omega])
    obtain ⟨h0, h1⟩ := hU
    clear hp
    go_enter Try.func70, Try.ntmps70
    go_wp2
    go_ret
    exact ⟨_, 3, by rw [X.out]; rfl, by rw [X.out, ← x.out]; exact own_lit w _ _ rfl, (Below.refl _ _).alloc (Nat.le_refl _) _⟩
  · have X := Lib.hid (Px.smp1 h)
    obtain ⟨hp, ha0, ha1⟩ := h
    have k3 : (p / 281474976710656 == 3) = false := by rw [beq_eq_false_iff_ne]; omega
    have k1 : (p / 281474976710656 == 1) = true := by rw [beq_iff_eq]; omega
    have e1 : 0 ≤ p % 281474976710656 := by omega
    have e2 : p % 281474976710656 < 65536 := by omega
    have x := Lib.hid (show [p % 281474976710656] = [a] by rw [show p % 281474976710656 = a by omega])
    obtain ⟨h0, h1⟩ := hU
    clear hp
    go_enter Try.func70, Try.ntmps70
    go_wp2
    go_ret
    exact ⟨_, 1, by rw [X.out]; rfl, by rw [X.out, ← x.out]; exact own_lit w _ _ rfl, (Below.refl _ _).alloc (Nat.le_refl _) _⟩
  · have X := Lib.hid (Px.smp0 h)
    obtain ⟨h3, h2⟩ := h
    unfold Px.hiP at h3 h2
    unfold Px.loP at h2
    obtain ⟨h0, h1⟩ := hU
    have k3 : (p / 281474976710656 == 3) = false := by rw [beq_eq_false_iff_ne]; omega
    have e1 : 0 ≤ p % 281474976710656 := by omega
    have e2 : p % 281474976710656 < 281474976710656 := by omega
    by_cases hh : p / 281474976710656 = 1
    · have k1 : (p / 281474976710656 == 1) = true := by rw [beq_iff_eq]; omega
      have e3 : ¬ p % 281474976710656 < 65536 := by omega
      clear h3 h2 hh
      go_enter Try.func70, Try.ntmps70
      go_wp2
      go_ret
      exact ⟨none, 0, by rw [X.out]; rfl, by rw [X.out]; exact .inl rfl, Below.refl _ _⟩
    · have k1 : (p / 281474976710656 == 1) = false := by rw [beq_eq_false_iff_ne]; omega
      clear h3 h2 hh
      go_enter Try.func70, Try.ntmps70
      go_wp2
      go_ret
      exact ⟨none, 0, by rw [X.out]; rfl, by rw [X.out]; exact .inl rfl, Below.refl _ _⟩

end Pq
end Go.Proofs.Ytflpocnbmpdhiaa

/- What Format, Fits, Form, Good, Gray, Turned and Scaled come to, over any memory, of pix and of the document's own answer. Condition: numbers fit their kinds. -/
namespace Go.Proofs.Ytflpocnbmpdhiaa
open Go.RowKit
set_option linter.unusedVariables false
namespace Pq
theorem format_any (c m : Int) (w : World) :
    Calls Try.prog 111 #[.agg #[.int .i64 c, .int .i64 m]] w fun e w' => e = .returned (.bool (Px.formatV c m)) ∧ Below w.heap.size w w' := by
  by_cases hc : c = 1 ∨ c = 3
  · by_cases h1 : 1 ≤ m
    · by_cases h2 : m ≤ 65535
      · rcases hc with rfl | rfl
        · have X := Lib.hid (show true = Px.formatV 1 m by simp [Px.formatV, h1, h2])
          go_enter Try.func111, Try.ntmps111
          go_wp2
          go_ret
          exact ⟨ret_b X.out, (Below.refl _ _).alloc (Nat.le_refl _) _⟩
        · have X := Lib.hid (show true = Px.formatV 3 m by simp [Px.formatV, h1, h2])
          go_enter Try.func111, Try.ntmps111
          go_wp2
          go_ret
          exact ⟨ret_b X.out, (Below.refl _ _).alloc (Nat.le_refl _) _⟩
      · rcases hc with rfl | rfl
        · have X := Lib.hid (show false = Px.formatV 1 m by simp [Px.formatV, h2])
          go_enter Try.func111, Try.ntmps111
          go_wp2
          go_ret
          exact ⟨ret_b X.out, (Below.refl _ _).alloc (Nat.le_refl _) _⟩
        · have X := Lib.hid (show false = Px.formatV 3 m by simp [Px.formatV, h2])
          go_enter Try.func111, Try.ntmps111
          go_wp2
          go_ret
          exact ⟨ret_b X.out, (Below.refl _ _).alloc (Nat.le_refl _) _⟩
    · rcases hc with rfl | rfl
      · have X := Lib.hid (show false = Px.formatV 1 m by simp [Px.formatV, h1])
        go_enter Try.func111, Try.ntmps111
        go_wp2
        go_ret
        exact ⟨ret_b X.out, (Below.refl _ _).alloc (Nat.le_refl _) _⟩
      · have X := Lib.hid (show false = Px.formatV 3 m by simp [Px.formatV, h1])
        go_enter Try.func111, Try.ntmps111
        go_wp2
        go_ret
        exact ⟨ret_b X.out, (Below.refl _ _).alloc (Nat.le_refl _) _⟩
  · have k1 : (c == 1) = false := by simp; omega
    have k3 : (c == 3) = false := by simp; omega
    clear hc
    have X := Lib.hid (show false = Px.formatV c m by simp only [Px.formatV, k1, k3]; rfl)
    go_enter Try.func111, Try.ntmps111
    go_wp2
    go_ret
    exact ⟨ret_b X.out, (Below.refl _ _).alloc (Nat.le_refl _) _⟩

theorem refFormat_any (c m : Int) (w : World) :
    Calls Try.prog 97 #[.agg #[.int .i64 c, .int .i64 m]] w fun e w' => e = .returned (.bool (Px.formatV c m)) ∧ Below w.heap.size w w' := by
  by_cases hc : c = 1 ∨ c = 3
  · by_cases h1 : 1 ≤ m
    · by_cases h2 : m < 65536
      · rcases hc with rfl | rfl
        · have X := Lib.hid (show true = Px.formatV 1 m by simp [Px.formatV, h1]; omega)
          go_enter Try.func97, Try.ntmps97
          go_wp2
          go_ret
          exact ⟨ret_b X.out, (Below.refl _ _).alloc (Nat.le_refl _) _⟩
        · have X := Lib.hid (show true = Px.formatV 3 m by simp [Px.formatV, h1]; omega)
          go_enter Try.func97, Try.ntmps97
          go_wp2
          go_ret
          exact ⟨ret_b X.out, (Below.refl _ _).alloc (Nat.le_refl _) _⟩
      · rcases hc with rfl | rfl
        · have X := Lib.hid (show false = Px.formatV 1 m by simp [Px.formatV]; omega)
          go_enter Try.func97, Try.ntmps97
          go_wp2
          go_ret
          exact ⟨ret_b X.out, (Below.refl _ _).alloc (Nat.le_refl _) _⟩
        · have X := Lib.hid (show false = Px.formatV 3 m by simp [Px.formatV]; omega)
          go_enter Try.func97, Try.ntmps97
          go_wp2
          go_ret
          exact ⟨ret_b X.out, (Below.refl _ _).alloc (Nat.le_refl _) _⟩
    · rcases hc with rfl | rfl
      · have X := Lib.hid (show false = Px.formatV 1 m by simp [Px.formatV, h1])
        go_enter Try.func97, Try.ntmps97
        go_wp2
        go_ret
        exact ⟨ret_b X.out, (Below.refl _ _).alloc (Nat.le_refl _) _⟩
      · have X := Lib.hid (show false = Px.formatV 3 m by simp [Px.formatV, h1])
        go_enter Try.func97, Try.ntmps97
        go_wp2
        go_ret
        exact ⟨ret_b X.out, (Below.refl _ _).alloc (Nat.le_refl _) _⟩
  · have k1 : (c == 1) = false := by simp; omega
    have k3 : (c == 3) = false := by simp; omega
    clear hc
    have X := Lib.hid (show false = Px.formatV c m by simp only [Px.formatV, k1, k3]; rfl)
    go_enter Try.func97, Try.ntmps97
    go_wp2
    go_ret
    exact ⟨ret_b X.out, (Below.refl _ _).alloc (Nat.le_refl _) _⟩


theorem bcell {W w1 : World} (hb : Below W.heap.size W w1) : (∀ b o, b < W.heap.size → w1.cell? ⟨b, o, none⟩ = W.cell? ⟨b, o, none⟩) ∧ (∀ b o, b < W.heap.size → w1.frozen? ⟨b, o, none⟩ = W.frozen? ⟨b, o, none⟩) :=
  ⟨fun b o h => hb.cell (p := ⟨b, o, none⟩) h, fun b o h => hb.frozen (p := ⟨b, o, none⟩) h⟩
theorem max3 (blk off cap : Nat) (a b c : Int) (w : World)
    (c0 : w.cell? ⟨blk, off, none⟩ = some (.int .i64 a)) (c1 : w.cell? ⟨blk, off + 1, none⟩ = some (.int .i64 b)) (c2 : w.cell? ⟨blk, off + 2, none⟩ = some (.int .i64 c)) :
    Calls Try.prog 112 #[.slice (some ⟨blk, off, none⟩) 3 cap] w fun e w' => e = .returned (.int .i64 (max (max a b) c)) ∧ w = w' := by
  go_enter Try.func112, Try.ntmps112
  go_wp2
  go_rounds 3
  all_goals (go_ret; exact ⟨ret_i (by omega), rfl⟩)

theorem max3M (blk off cap : Nat) (a b c M : Int) (hM : Hid (max (max a b) c = M)) (w : World)
    (c0 : w.cell? ⟨blk, off, none⟩ = some (.int .i64 a)) (c1 : w.cell? ⟨blk, off + 1, none⟩ = some (.int .i64 b)) (c2 : w.cell? ⟨blk, off + 2, none⟩ = some (.int .i64 c)) :
    Calls Try.prog 112 #[.slice (some ⟨blk, off, none⟩) 3 cap] w fun e w' => e = .returned (.int .i64 M) ∧ w = w' :=
  (max3 blk off cap a b c w c0 c1 c2).mono fun _ _ h => by rw [← hM.out]; exact h

theorem max1 (blk off cap : Nat) (a : Int) (w : World)
    (c0 : w.cell? ⟨blk, off, none⟩ = some (.int .i64 a)) :
    Calls Try.prog 112 #[.slice (some ⟨blk, off, none⟩) 1 cap] w fun e w' => e = .returned (.int .i64 a) ∧ w = w' := by
  go_enter Try.func112, Try.ntmps112
  go_wp2
  go_rounds 1
  go_ret
  exact ⟨rfl, rfl⟩


theorem box_below (w : World) (cs : Array Value) (t : TypeId) {w1 : World} (hb1 : Below (w.alloc (.cells cs t)).heap.size (w.alloc (.cells cs t)) w1) : Below w.heap.size w w1 :=
  ((Below.refl _ _).alloc (Nat.le_refl _) _).trans (hb1.mono (by simp))

theorem fits3_no (p c m a b d : Int) (h : Px.Is3 p a b d) (k : ((3 : Int) == c) = false) (w : World) :
    Calls Try.prog 93 #[.int .u64 p, .agg #[.int .i64 c, .int .i64 m]] w fun e w' => e = .returned (.bool false) ∧ Below w.heap.size w w' := by
  go_enter Try.func93, Try.ntmps93
  go_wp2_with (go_at_call 110; refine (split3 p a b d h _).mono ?_; rintro e w1 ⟨rfl, hb1⟩)
  have d0 : w1.cell? ⟨w.heap.size, 0, none⟩ = some (.int .i64 c) := cell_later hb1 (by simp [go_sem])
  have d1 : w1.cell? ⟨w.heap.size, 1, none⟩ = some (.int .i64 m) := cell_later hb1 (by simp [go_sem])
  have hz : w.heap.size < w1.heap.size := by have := hb1.size; simp at this; omega
  go_quiet (fail)
  go_wp2
  go_ret
  exact ⟨rfl, below_drewN ((box_below w _ _ hb1).alloc (Nat.le_of_lt hz) _) _⟩
theorem fits1_no (p c m a : Int) (h : Px.Is1 p a) (k : ((1 : Int) == c) = false) (w : World) :
    Calls Try.prog 93 #[.int .u64 p, .agg #[.int .i64 c, .int .i64 m]] w fun e w' => e = .returned (.bool false) ∧ Below w.heap.size w w' := by
  go_enter Try.func93, Try.ntmps93
  go_wp2_with (go_at_call 110; refine (split1 p a h _).mono ?_; rintro e w1 ⟨rfl, hb1⟩)
  have d0 : w1.cell? ⟨w.heap.size, 0, none⟩ = some (.int .i64 c) := cell_later hb1 (by simp [go_sem])
  have d1 : w1.cell? ⟨w.heap.size, 1, none⟩ = some (.int .i64 m) := cell_later hb1 (by simp [go_sem])
  have hz : w.heap.size < w1.heap.size := by have := hb1.size; simp at this; omega
  go_quiet (fail)
  go_wp2
  go_ret
  exact ⟨rfl, below_drewN ((box_below w _ _ hb1).alloc (Nat.le_of_lt hz) _) _⟩
theorem fits0_no (p c m : Int) (hU : Px.U p) (h : Px.Is0 p) (k : ((0 : Int) == c) = false) (w : World) :
    Calls Try.prog 93 #[.int .u64 p, .agg #[.int .i64 c, .int .i64 m]] w fun e w' => e = .returned (.bool false) ∧ Below w.heap.size w w' := by
  go_enter Try.func93, Try.ntmps93
  go_wp2_with (go_at_call 110; refine (split0 p hU h _).mono ?_; rintro e w1 ⟨rfl, hb1⟩)
  have d0 : w1.cell? ⟨w.heap.size, 0, none⟩ = some (.int .i64 c) := cell_later hb1 (by simp [go_sem])
  have d1 : w1.cell? ⟨w.heap.size, 1, none⟩ = some (.int .i64 m) := cell_later hb1 (by simp [go_sem])
  have hz : w.heap.size < w1.heap.size := by have := hb1.size; simp at this; omega
  go_quiet (fail)
  go_wp2
  go_ret
  exact ⟨rfl, below_drewN ((box_below w _ _ hb1).alloc (Nat.le_of_lt hz) _) _⟩
end Pq
end Go.Proofs.Ytflpocnbmpdhiaa

/- When two lists of numbers are the same, by the document's own answer, over any memory; and its example. Condition: a length fits an int. -/
namespace Go.Proofs.Ytflpocnbmpdhiaa
open Go.RowKit
set_option linter.unusedVariables false
namespace Pq
/-- two lists are the same up to k -/
def Alike (x y : List Int) (k : Nat) : Prop := ∀ i, i < k → x.getD i 0 = y.getD i 0
theorem alike_all {x y : List Int} {n : Nat} (hx : x.length = n) (hy : y.length = n) (h : Alike x y n) : x = y := by
  refine List.ext_getElem (by rw [hx, hy]) fun i h1 h2 => ?_
  have := h i (by omega)
  rw [List.getD_eq_getElem?_getD, List.getD_eq_getElem?_getD, List.getElem?_eq_getElem h1, List.getElem?_eq_getElem h2] at this
  simpa using this
theorem alike_succ {x y : List Int} {k : Nat} (h : Alike x y k) (e : x.getD k 0 = y.getD k 0) : Alike x y (k + 1) := fun i hi => by
  rcases Nat.lt_or_ge i k with h1 | h1
  · exact h i h1
  · obtain rfl : i = k := by omega
    exact e

end Pq
end Go.Proofs.Ytflpocnbmpdhiaa

/- Unpack at numbers that are pixels of three samples, of one, and at those that are none. Condition: numbers fit their kinds. -/
namespace Go.Proofs.Ytflpocnbmpdhiaa
open Go.RowKit
set_option linter.unusedVariables false
namespace Pq
/-- three, one, no integers in memory of the call's own -/
def Own3 (base : Nat) (w' : World) (g : Nat) (a b c : Int) : Prop :=
  base ≤ g ∧ g < w'.heap.size ∧ w'.cell? ⟨g, 0, none⟩ = some (.int .i64 a) ∧ w'.cell? ⟨g, 1, none⟩ = some (.int .i64 b) ∧ w'.cell? ⟨g, 2, none⟩ = some (.int .i64 c) ∧
    w'.frozen? ⟨g, 0, none⟩ = false ∧ w'.frozen? ⟨g, 1, none⟩ = false ∧ w'.frozen? ⟨g, 2, none⟩ = false
def Own1 (base : Nat) (w' : World) (g : Nat) (a : Int) : Prop :=
  base ≤ g ∧ g < w'.heap.size ∧ w'.cell? ⟨g, 0, none⟩ = some (.int .i64 a) ∧ w'.frozen? ⟨g, 0, none⟩ = false
theorem own3 {base : Nat} {w : World} {ad : Option Addr} {a b c : Int} (h : Own base w ad [a, b, c]) : ∃ g, ad = some ⟨g, 0, none⟩ ∧ Own3 base w g a b c := by
  rcases h with h | ⟨g, h1, h2, h3, h4, h5⟩
  · cases h
  · exact ⟨g, h1, h2, h3, h4 0 (by simp), h4 1 (by simp), h4 2 (by simp), h5 0 (by simp), h5 1 (by simp), h5 2 (by simp)⟩
theorem own1 {base : Nat} {w : World} {ad : Option Addr} {a : Int} (h : Own base w ad [a]) : ∃ g, ad = some ⟨g, 0, none⟩ ∧ Own1 base w g a := by
  rcases h with h | ⟨g, h1, h2, h3, h4, h5⟩
  · cases h
  · exact ⟨g, h1, h2, h3, h4 0 (by simp), h5 0 (by simp)⟩
theorem isU3 {p a b c : Int} (h : Px.Is3 p a b c) : Px.U p := by unfold Px.Is3 at h; unfold Px.U; omega
theorem isU1 {p a : Int} (h : Px.Is1 p a) : Px.U p := by unfold Px.Is1 at h; unfold Px.U; omega
theorem refUnpack3 (p a b c : Int) (h : Px.Is3 p a b c) (w : World) :
    Calls Try.prog 70 #[.int .u64 p] w fun e w' => ∃ g cap, e = .returned (.slice (some ⟨g, 0, none⟩) 3 cap) ∧ Own3 w.heap.size w' g a b c ∧ Below w.heap.size w w' := by
  refine (refUnpack_any p (isU3 h) w).mono fun e w' ⟨ad, cap, he, ho, hb⟩ => ?_
  rw [Px.smp3 h] at he ho
  obtain ⟨g, rfl, ho3⟩ := own3 ho
  exact ⟨g, cap, he, ho3, hb⟩
theorem refUnpack1 (p a : Int) (h : Px.Is1 p a) (w : World) :
    Calls Try.prog 70 #[.int .u64 p] w fun e w' => ∃ g cap, e = .returned (.slice (some ⟨g, 0, none⟩) 1 cap) ∧ Own1 w.heap.size w' g a ∧ Below w.heap.size w w' := by
  refine (refUnpack_any p (isU1 h) w).mono fun e w' ⟨ad, cap, he, ho, hb⟩ => ?_
  rw [Px.smp1 h] at he ho
  obtain ⟨g, rfl, ho1⟩ := own1 ho
  exact ⟨g, cap, he, ho1, hb⟩
theorem refUnpack0 (p : Int) (hU : Px.U p) (h : Px.Is0 p) (w : World) :
    Calls Try.prog 70 #[.int .u64 p] w fun e w' => ∃ ad cap, e = .returned (.slice ad 0 cap) ∧ Below w.heap.size w w' := by
  refine (refUnpack_any p hU w).mono fun e w' ⟨ad, cap, he, ho, hb⟩ => ?_
  rw [Px.smp0 h] at he
  exact ⟨ad, cap, he, hb⟩
theorem unpack3 (p a b c : Int) (h : Px.Is3 p a b c) (w : World) :
    Calls Try.prog 95 #[.int .u64 p] w fun e w' => ∃ g cap, e = .returned (.slice (some ⟨g, 0, none⟩) 3 cap) ∧ Own3 w.heap.size w' g a b c ∧ Below w.heap.size w w' := by
  refine (unpack_any p (isU3 h) w).mono fun e w' ⟨ad, cap, he, ho, hb⟩ => ?_
  rw [Px.smp3 h] at he ho
  obtain ⟨g, rfl, ho3⟩ := own3 ho
  exact ⟨g, cap, he, ho3, hb⟩
theorem unpack1 (p a : Int) (h : Px.Is1 p a) (w : World) :
    Calls Try.prog 95 #[.int .u64 p] w fun e w' => ∃ g cap, e = .returned (.slice (some ⟨g, 0, none⟩) 1 cap) ∧ Own1 w.heap.size w' g a ∧ Below w.heap.size w w' := by
  refine (unpack_any p (isU1 h) w).mono fun e w' ⟨ad, cap, he, ho, hb⟩ => ?_
  rw [Px.smp1 h] at he ho
  obtain ⟨g, rfl, ho1⟩ := own1 ho
  exact ⟨g, cap, he, ho1, hb⟩
theorem unpack0 (p : Int) (hU : Px.U p) (h : Px.Is0 p) (w : World) :
    Calls Try.prog 95 #[.int .u64 p] w fun e w' => ∃ ad cap, e = .returned (.slice ad 0 cap) ∧ Below w.heap.size w w' := by
  refine (unpack_any p hU w).mono fun e w' ⟨ad, cap, he, ho, hb⟩ => ?_
  rw [Px.smp0 h] at he
  exact ⟨ad, cap, he, hb⟩

end Pq
end Go.Proofs.Ytflpocnbmpdhiaa

/- What a law's walk is told of a slice of integers that came in, and what follows of it. No condition. -/
namespace Go.Proofs.Ytflpocnbmpdhiaa
open Go.RowKit
set_option linter.unusedVariables false
namespace Pq
/-- It is nil; or it leads to a row of 'cap' cells, the numbers 'zs' (the first 'len' are its elements), each fitting its kind. -/
def IsRow (k : IntKind) (w : World) (a : Option Addr) (len cap : Nat) (zs : List Int) : Prop :=
  (a = none ∧ len = 0 ∧ cap = 0 ∧ zs = []) ∨
  ∃ x, a = some x ∧ len ≤ cap ∧ cap ≤ maxLen ∧ zs.length = cap ∧ (∀ i, i < zs.length → w.cell? (x.add i) = some (.int k (zs.getD i 0))) ∧ ∀ n ∈ zs, (Lit.int k n).wf = true
theorem isrow_len {k : IntKind} {w : World} {a : Option Addr} {len cap : Nat} {zs : List Int} (h : IsRow k w a len cap zs) : len ≤ 9223372036854775807 ∧ len ≤ zs.length ∧ len ≤ cap ∧ cap ≤ 9223372036854775807 := by
  rcases h with ⟨_, rfl, rfl, rfl⟩ | ⟨x, _, h1, h2, h3, _⟩
  · simp
  · unfold maxLen at h2; omega
/-- the first n elements, as a slice -/
theorem isrow_take {w : World} {a : Option Addr} {len cap : Nat} {zs : List Int} (h : IsRow .i64 w a len cap zs) (n : Nat) (hn : n ≤ len) : Sl w a n (zs.take n) := by
  have hl := isrow_len h
  refine ⟨by rw [List.length_take]; omega, ?_⟩
  rcases h with ⟨_, rfl, _, _⟩ | ⟨⟨b, o, sp⟩, rfl, h1, h2, h3, h4, _⟩
  · exact .inl (by omega)
  · by_cases h0 : n = 0
    · exact .inl h0
    · have hc := h4 0 (by omega)
      have hsp : sp = none := by simpa [Addr.add] using World.cell?_spot hc
      subst hsp
      refine .inr ⟨b, o, rfl, fun i hi => ?_⟩
      rw [← addr_add, h4 i (by omega)]
      simp [List.getD_eq_getElem?_getD, List.getElem?_take_of_lt hi]
theorem isrow_wf {w : World} {a : Option Addr} {len cap : Nat} {zs : List Int} (h : IsRow .i64 w a len cap zs) : ∀ n ∈ zs, Px.I n := by
  rcases h with ⟨_, _, _, rfl⟩ | ⟨x, _, _, _, _, _, h5⟩
  · intro n hn; cases hn
  · intro n hn
    have h := h5 n hn
    unfold Px.I
    simp [Lit.wf, IntKind.min, IntKind.max, IntKind.bits, IntKind.signed] at h
    omega
theorem wf_u {n : Int} (h : (Lit.int .u64 n).wf = true) : Px.U n := by
  unfold Px.U
  simp [Lit.wf, IntKind.min, IntKind.max, IntKind.bits, IntKind.signed] at h
  omega
theorem wf_i {n : Int} (h : (Lit.int .i64 n).wf = true) : Px.I n := by
  unfold Px.I
  simp [Lit.wf, IntKind.min, IntKind.max, IntKind.bits, IntKind.signed] at h
  omega
end Pq
end Go.Proofs.Ytflpocnbmpdhiaa

/- What Good of the document's own answer comes to: a pixel of a format, made of any numbers, over any memory. Condition: the format may be; numbers fit their kinds. -/
namespace Go.Proofs.Ytflpocnbmpdhiaa
open Go.RowKit
set_option linter.unusedVariables false
attribute [local go_sem ↓] Go.wp_at_zero Go.wp_at_succ
namespace Pq
set_option maxHeartbeats 2000000 in
theorem good33 (b o cap n : Nat) (x y z m : Int) (hn : 3 ≤ n) (hn' : n ≤ 9223372036854775807) (hx : Px.I x) (hy : Px.I y) (hz : Px.I z) (m0 : 0 ≤ m) (m1 : m ≤ 65535) (w : World) (c0 : w.cell? ⟨b, o, none⟩ = some (.int .i64 x)) (c1 : w.cell? ⟨b, o + 1, none⟩ = some (.int .i64 y)) (c2 : w.cell? ⟨b, o + 2, none⟩ = some (.int .i64 z)) :
    Calls Try.prog 64 #[.slice (some ⟨b, o, none⟩) n cap, .agg #[.int .i64 3, .int .i64 m]] w fun e w' => e = .returned (.int .u64 (Px.packV [Px.aroundV x (m + 1), Px.aroundV y (m + 1), Px.aroundV z (m + 1)]).1) ∧ Below w.heap.size w w' := by
  have hmk : ∀ w, (Instr.makeSlice 69 (.int .i64 3) (.int .i64 3)).run Try.prog w = .ok (.slice (some ⟨w.heap.size, 0, none⟩) 3 3) (w.alloc (.cells #[.int .i64 0, .int .i64 0, .int .i64 0] 3)) := fun _ => by kernel_rfl
  have hwr : IntKind.i64.wrap (m + 1) = m + 1 := IntWalk.i64_in _ (by omega)
  have n0 : (0 : Int) < n := by omega
  have n1 : (1 : Int) < n := by omega
  have n2 : (2 : Int) < n := by omega
  have hb : b < w.heap.size := block_lt_of_cell c0
  obtain ⟨x', hx'⟩ : ∃ v, Px.aroundV x (m + 1) = v := ⟨_, rfl⟩
  have HX := Lib.hid hx'; clear hx'
  obtain ⟨y', hy'⟩ : ∃ v, Px.aroundV y (m + 1) = v := ⟨_, rfl⟩
  have HY := Lib.hid hy'; clear hy'
  obtain ⟨z', hz'⟩ : ∃ v, Px.aroundV z (m + 1) = v := ⟨_, rfl⟩
  have HZ := Lib.hid hz'; clear hz'
  rw [HX.out, HY.out, HZ.out]
  go_enter Try.func64, Try.ntmps64
  go_wp2
  refine wp_loop_rounds 4 ?_
  rw [rounds_succ]
  go_wp2
  go_region_held3 (fun w' => w'.cell? ⟨b, o, none⟩ = some (.int .i64 x) ∧ w'.cell? ⟨b, o + 1, none⟩ = some (.int .i64 y) ∧ w'.cell? ⟨b, o + 2, none⟩ = some (.int .i64 z) ∧ w'.cell? ⟨w.heap.size, 1, none⟩ = some (.int .i64 m)) (go_keep)
    (first | (go_at_call 15; refine (around_any _ _ hx (by omega) (by omega) _).mono ?_; rw [HX.out]; rintro e w9 ⟨rfl, rfl⟩))
  go_wp2
  rw [rounds_succ]
  go_wp2
  go_region_held3 (fun w' => w'.cell? ⟨b, o, none⟩ = some (.int .i64 x) ∧ w'.cell? ⟨b, o + 1, none⟩ = some (.int .i64 y) ∧ w'.cell? ⟨b, o + 2, none⟩ = some (.int .i64 z) ∧ w'.cell? ⟨w.heap.size, 1, none⟩ = some (.int .i64 m)) (go_keep)
    (first | (go_at_call 15; refine (around_any _ _ hy (by omega) (by omega) _).mono ?_; rw [HY.out]; rintro e w9 ⟨rfl, rfl⟩))
  go_wp2
  rw [rounds_succ]
  go_wp2
  go_region_held3 (fun w' => w'.cell? ⟨b, o, none⟩ = some (.int .i64 x) ∧ w'.cell? ⟨b, o + 1, none⟩ = some (.int .i64 y) ∧ w'.cell? ⟨b, o + 2, none⟩ = some (.int .i64 z) ∧ w'.cell? ⟨w.heap.size, 1, none⟩ = some (.int .i64 m)) (go_keep)
    (first | (go_at_call 15; refine (around_any _ _ hz (by omega) (by omega) _).mono ?_; rw [HZ.out]; rintro e w9 ⟨rfl, rfl⟩))
  go_wp2
  rw [rounds_succ]
  go_wp2_with (go_at_call 62; refine (refPack_any _ _ _ [x', y', z'] _ (by omega) ?_).mono ?_; (exact sl3 (by simp [go_sem]) (by simp [go_sem]) (by simp [go_sem])); rintro e w9 ⟨rfl, rfl⟩)
  go_ret
  exact ⟨rfl, by go_grown⟩

set_option maxHeartbeats 2000000 in
theorem good32 (b o cap : Nat) (x y m : Int) (hx : Px.I x) (hy : Px.I y) (m0 : 0 ≤ m) (m1 : m ≤ 65535) (w : World) (c0 : w.cell? ⟨b, o, none⟩ = some (.int .i64 x)) (c1 : w.cell? ⟨b, o + 1, none⟩ = some (.int .i64 y)) :
    Calls Try.prog 64 #[.slice (some ⟨b, o, none⟩) 2 cap, .agg #[.int .i64 3, .int .i64 m]] w fun e w' => e = .returned (.int .u64 (Px.packV [Px.aroundV x (m + 1), Px.aroundV y (m + 1), 0]).1) ∧ Below w.heap.size w w' := by
  have hmk : ∀ w, (Instr.makeSlice 69 (.int .i64 3) (.int .i64 3)).run Try.prog w = .ok (.slice (some ⟨w.heap.size, 0, none⟩) 3 3) (w.alloc (.cells #[.int .i64 0, .int .i64 0, .int .i64 0] 3)) := fun _ => by kernel_rfl
  have hwr : IntKind.i64.wrap (m + 1) = m + 1 := IntWalk.i64_in _ (by omega)
  have hb : b < w.heap.size := block_lt_of_cell c0
  obtain ⟨x', hx'⟩ : ∃ v, Px.aroundV x (m + 1) = v := ⟨_, rfl⟩
  have HX := Lib.hid hx'; clear hx'
  obtain ⟨y', hy'⟩ : ∃ v, Px.aroundV y (m + 1) = v := ⟨_, rfl⟩
  have HY := Lib.hid hy'; clear hy'
  rw [HX.out, HY.out]
  go_enter Try.func64, Try.ntmps64
  go_wp2
  refine wp_loop_rounds 3 ?_
  rw [rounds_succ]
  go_wp2
  go_region_held3 (fun w' => w'.cell? ⟨b, o, none⟩ = some (.int .i64 x) ∧ w'.cell? ⟨b, o + 1, none⟩ = some (.int .i64 y) ∧ w'.cell? ⟨w.heap.size, 1, none⟩ = some (.int .i64 m)) (go_keep)
    (first | (go_at_call 15; refine (around_any _ _ hx (by omega) (by omega) _).mono ?_; rw [HX.out]; rintro e w9 ⟨rfl, rfl⟩))
  go_wp2
  rw [rounds_succ]
  go_wp2
  go_region_held3 (fun w' => w'.cell? ⟨b, o, none⟩ = some (.int .i64 x) ∧ w'.cell? ⟨b, o + 1, none⟩ = some (.int .i64 y) ∧ w'.cell? ⟨w.heap.size, 1, none⟩ = some (.int .i64 m)) (go_keep)
    (first | (go_at_call 15; refine (around_any _ _ hy (by omega) (by omega) _).mono ?_; rw [HY.out]; rintro e w9 ⟨rfl, rfl⟩))
  go_wp2
  rw [rounds_succ]
  go_wp2_with (go_at_call 62; refine (refPack_any _ _ _ [x', y', 0] _ (by omega) ?_).mono ?_; (exact sl3 (by simp [go_sem]) (by simp [go_sem]) (by simp [go_sem])); rintro e w9 ⟨rfl, rfl⟩)
  go_ret
  exact ⟨rfl, by go_grown⟩

set_option maxHeartbeats 2000000 in
theorem good31 (b o cap : Nat) (x m : Int) (hx : Px.I x) (m0 : 0 ≤ m) (m1 : m ≤ 65535) (w : World) (c0 : w.cell? ⟨b, o, none⟩ = some (.int .i64 x)) :
    Calls Try.prog 64 #[.slice (some ⟨b, o, none⟩) 1 cap, .agg #[.int .i64 3, .int .i64 m]] w fun e w' => e = .returned (.int .u64 (Px.packV [Px.aroundV x (m + 1), 0, 0]).1) ∧ Below w.heap.size w w' := by
  have hmk : ∀ w, (Instr.makeSlice 69 (.int .i64 3) (.int .i64 3)).run Try.prog w = .ok (.slice (some ⟨w.heap.size, 0, none⟩) 3 3) (w.alloc (.cells #[.int .i64 0, .int .i64 0, .int .i64 0] 3)) := fun _ => by kernel_rfl
  have hwr : IntKind.i64.wrap (m + 1) = m + 1 := IntWalk.i64_in _ (by omega)
  have hb : b < w.heap.size := block_lt_of_cell c0
  obtain ⟨x', hx'⟩ : ∃ v, Px.aroundV x (m + 1) = v := ⟨_, rfl⟩
  have HX := Lib.hid hx'; clear hx'
  rw [HX.out]
  go_enter Try.func64, Try.ntmps64
  go_wp2
  refine wp_loop_rounds 2 ?_
  rw [rounds_succ]
  go_wp2
  go_region_held3 (fun w' => w'.cell? ⟨b, o, none⟩ = some (.int .i64 x) ∧ w'.cell? ⟨w.heap.size, 1, none⟩ = some (.int .i64 m)) (go_keep)
    (first | (go_at_call 15; refine (around_any _ _ hx (by omega) (by omega) _).mono ?_; rw [HX.out]; rintro e w9 ⟨rfl, rfl⟩))
  go_wp2
  rw [rounds_succ]
  go_wp2_with (go_at_call 62; refine (refPack_any _ _ _ [x', 0, 0] _ (by omega) ?_).mono ?_; (exact sl3 (by simp [go_sem]) (by simp [go_sem]) (by simp [go_sem])); rintro e w9 ⟨rfl, rfl⟩)
  go_ret
  exact ⟨rfl, by go_grown⟩

set_option maxHeartbeats 2000000 in
theorem good30 (ao : Option Addr) (cap : Nat) (m : Int)  (m0 : 0 ≤ m) (m1 : m ≤ 65535) (w : World)  :
    Calls Try.prog 64 #[.slice ao 0 cap, .agg #[.int .i64 3, .int .i64 m]] w fun e w' => e = .returned (.int .u64 (Px.packV [0, 0, 0]).1) ∧ Below w.heap.size w w' := by
  have hmk : ∀ w, (Instr.makeSlice 69 (.int .i64 3) (.int .i64 3)).run Try.prog w = .ok (.slice (some ⟨w.heap.size, 0, none⟩) 3 3) (w.alloc (.cells #[.int .i64 0, .int .i64 0, .int .i64 0] 3)) := fun _ => by kernel_rfl
  have hwr : IntKind.i64.wrap (m + 1) = m + 1 := IntWalk.i64_in _ (by omega)
  go_enter Try.func64, Try.ntmps64
  go_wp2
  refine wp_loop_rounds 1 ?_
  rw [rounds_succ]
  go_wp2_with (go_at_call 62; refine (refPack_any _ _ _ [0, 0, 0] _ (by omega) ?_).mono ?_; (exact sl3 (by simp [go_sem]) (by simp [go_sem]) (by simp [go_sem])); rintro e w9 ⟨rfl, rfl⟩)
  go_ret
  exact ⟨rfl, by go_grown⟩

set_option maxHeartbeats 2000000 in
theorem good11 (b o cap n : Nat) (x m : Int) (hn : 1 ≤ n) (hn' : n ≤ 9223372036854775807) (hx : Px.I x) (m0 : 0 ≤ m) (m1 : m ≤ 65535) (w : World) (c0 : w.cell? ⟨b, o, none⟩ = some (.int .i64 x)) :
    Calls Try.prog 64 #[.slice (some ⟨b, o, none⟩) n cap, .agg #[.int .i64 1, .int .i64 m]] w fun e w' => e = .returned (.int .u64 (Px.packV [Px.aroundV x (m + 1)]).1) ∧ Below w.heap.size w w' := by
  have hmk : ∀ w, (Instr.makeSlice 69 (.int .i64 1) (.int .i64 1)).run Try.prog w = .ok (.slice (some ⟨w.heap.size, 0, none⟩) 1 1) (w.alloc (.cells #[.int .i64 0] 3)) := fun _ => by kernel_rfl
  have hwr : IntKind.i64.wrap (m + 1) = m + 1 := IntWalk.i64_in _ (by omega)
  have n0 : (0 : Int) < n := by omega
  have hb : b < w.heap.size := block_lt_of_cell c0
  obtain ⟨x', hx'⟩ : ∃ v, Px.aroundV x (m + 1) = v := ⟨_, rfl⟩
  have HX := Lib.hid hx'; clear hx'
  rw [HX.out]
  go_enter Try.func64, Try.ntmps64
  go_wp2
  refine wp_loop_rounds 2 ?_
  rw [rounds_succ]
  go_wp2
  go_region_held3 (fun w' => w'.cell? ⟨b, o, none⟩ = some (.int .i64 x) ∧ w'.cell? ⟨w.heap.size, 1, none⟩ = some (.int .i64 m)) (go_keep)
    (first | (go_at_call 15; refine (around_any _ _ hx (by omega) (by omega) _).mono ?_; rw [HX.out]; rintro e w9 ⟨rfl, rfl⟩))
  go_wp2
  rw [rounds_succ]
  go_wp2_with (go_at_call 62; refine (refPack_any _ _ _ [x'] _ (by omega) ?_).mono ?_; (exact sl1 (by simp [go_sem])); rintro e w9 ⟨rfl, rfl⟩)
  go_ret
  exact ⟨rfl, by go_grown⟩

set_option maxHeartbeats 2000000 in
theorem good10 (ao : Option Addr) (cap : Nat) (m : Int)  (m0 : 0 ≤ m) (m1 : m ≤ 65535) (w : World)  :
    Calls Try.prog 64 #[.slice ao 0 cap, .agg #[.int .i64 1, .int .i64 m]] w fun e w' => e = .returned (.int .u64 (Px.packV [0]).1) ∧ Below w.heap.size w w' := by
  have hmk : ∀ w, (Instr.makeSlice 69 (.int .i64 1) (.int .i64 1)).run Try.prog w = .ok (.slice (some ⟨w.heap.size, 0, none⟩) 1 1) (w.alloc (.cells #[.int .i64 0] 3)) := fun _ => by kernel_rfl
  have hwr : IntKind.i64.wrap (m + 1) = m + 1 := IntWalk.i64_in _ (by omega)
  go_enter Try.func64, Try.ntmps64
  go_wp2
  refine wp_loop_rounds 1 ?_
  rw [rounds_succ]
  go_wp2_with (go_at_call 62; refine (refPack_any _ _ _ [0] _ (by omega) ?_).mono ?_; (exact sl1 (by simp [go_sem])); rintro e w9 ⟨rfl, rfl⟩)
  go_ret
  exact ⟨rfl, by go_grown⟩

end Pq
end Go.Proofs.Ytflpocnbmpdhiaa

/- What Good of the document's own answer comes to, whatever numbers it is handed; and that it is a pixel of the format. Condition: the format may be; numbers fit their kinds. -/
namespace Go.Proofs.Ytflpocnbmpdhiaa
open Go.RowKit
set_option linter.unusedVariables false
namespace Pq
theorem good_sl (a : Option Addr) (len cap : Nat) (l : List Int) (c m : Int) (hl : len ≤ 9223372036854775807) (hI : ∀ z ∈ l, Px.I z) (hc : c = 1 ∨ c = 3) (m0 : 0 ≤ m) (m1 : m ≤ 65535) (w : World) (hs : Sl w a len l) :
    Calls Try.prog 64 #[.slice a len cap, .agg #[.int .i64 c, .int .i64 m]] w fun e w' => e = .returned (.int .u64 (Px.goodV l c m)) ∧ Below w.heap.size w w' := by
  obtain ⟨hz, hcell⟩ := hs
  match l, hz with
  | [], hz =>
    obtain rfl : len = 0 := by simpa using hz.symm
    rcases hc with rfl | rfl
    · exact good10 a cap m m0 m1 w
    · exact good30 a cap m m0 m1 w
  | x :: r, hz =>
    rcases hcell with hcell | ⟨b, o, rfl, hcell⟩
    · simp at hz; omega
    have hx := hI x (by simp)
    have c0 : w.cell? ⟨b, o, none⟩ = some (.int .i64 x) := by simpa using hcell 0 (by simp at hz; omega)
    rcases hc with rfl | rfl
    · exact good11 b o cap len x m (by simp at hz; omega) hl hx m0 m1 w c0
    · match r, hz with
      | [], hz =>
        obtain rfl : len = 1 := by simpa using hz.symm
        exact good31 b o cap x m hx m0 m1 w c0
      | y :: r, hz =>
        have hy := hI y (by simp)
        have c1 : w.cell? ⟨b, o + 1, none⟩ = some (.int .i64 y) := by simpa using hcell 1 (by simp at hz; omega)
        match r, hz with
        | [], hz =>
          obtain rfl : len = 2 := by simpa using hz.symm
          exact good32 b o cap x y m hx hy m0 m1 w c0 c1
        | z :: r, hz =>
          have hzz := hI z (by simp)
          have c2 : w.cell? ⟨b, o + 2, none⟩ = some (.int .i64 z) := by simpa using hcell 2 (by simp at hz; omega)
          exact good33 b o cap len x y z m (by simp at hz; omega) hl hx hy hzz m0 m1 w c0 c1 c2

/-- a pixel of a format that may be -/
def GoodP (p c m : Int) : Prop := (c = 3 ∧ ∃ x y z, Px.Is3 p x y z ∧ x ≤ m ∧ y ≤ m ∧ z ≤ m) ∨ (c = 1 ∧ ∃ x, Px.Is1 p x ∧ x ≤ m)
theorem goodL_in (m : Int) (m0 : 0 ≤ m) : ∀ (k : Nat) (zs : List Int), ∀ z ∈ Px.goodL zs m k, 0 ≤ z ∧ z ≤ m
  | 0, _, z, h => by cases h
  | k + 1, zs, z, h => by
    unfold Px.goodL at h
    rcases List.mem_cons.1 h with h | h
    · subst h
      cases zs with
      | nil => exact ⟨Int.le_refl _, m0⟩
      | cons x r => have := Px.around_lt x (m + 1) (by omega); simp only []; omega
    · exact goodL_in m m0 k zs.tail z h
theorem goodL_len (m : Int) : ∀ (k : Nat) (zs : List Int), (Px.goodL zs m k).length = k
  | 0, _ => rfl
  | k + 1, zs => by unfold Px.goodL; simp [goodL_len m k zs.tail]
theorem good_is (l : List Int) {c m : Int} (hc : c = 1 ∨ c = 3) (m0 : 0 ≤ m) (m1 : m ≤ 65535) : GoodP (Px.goodV l c m) c m := by
  have hin := goodL_in m m0 c.toNat l
  have hln := goodL_len m c.toNat l
  unfold Px.goodV
  generalize Px.goodL l m c.toNat = q at *
  rcases hc with rfl | rfl
  · match q, hln with
    | [x], _ =>
      have hx := hin x (by simp)
      rw [Px.packV1 (by omega) (by omega)]
      exact .inr ⟨rfl, x, ⟨rfl, by omega, by omega⟩, hx.2⟩
  · match q, hln with
    | [x, y, z], _ =>
      have hx := hin x (by simp)
      have hy := hin y (by simp)
      have hz := hin z (by simp)
      rw [Px.packV3 (by omega) (by omega) (by omega) (by omega) (by omega) (by omega)]
      exact .inl ⟨rfl, x, y, z, ⟨rfl, by omega, by omega, by omega, by omega, by omega, by omega⟩, hx.2, hy.2, hz.2⟩
theorem goodU {p c m : Int} (h : GoodP p c m) : Px.U p := by
  rcases h with ⟨_, x, y, z, h, _⟩ | ⟨_, x, h, _⟩
  · exact isU3 h
  · exact isU1 h
theorem formM_in (m : Int) : 1 ≤ Px.formM m ∧ Px.formM m ≤ 65535 := by
  have := Px.around_lt m 65535 (by omega)
  unfold Px.formM; omega
theorem formC_in (c : Int) : Px.formC c = 1 ∨ Px.formC c = 3 := by unfold Px.formC; split <;> simp
end Pq
end Go.Proofs.Ytflpocnbmpdhiaa

/- Pixels of a head, made of any numbers, by the document, over any memory. Condition: the head may be, there are not too many. -/
namespace Go.Proofs.Ytflpocnbmpdhiaa
open Go.RowKit
set_option linter.unusedVariables false

theorem one_slk (w : World) (q : IntKind) (x : Int) (t : TypeId) : SlK q (w.alloc (.cells #[.int q x] t)) (some ⟨w.heap.size, 0, none⟩) 1 [x] := by
  refine ⟨rfl, .inr ⟨w.heap.size, 0, rfl, fun i hi => ?_⟩⟩
  obtain rfl : i = 0 := by omega
  rw [World.cell?_alloc_at _ _ _ _ rfl]; rfl
/-- pixels that fit a head -/
def Pl.Fits (G : Hd.H) (l : List Int) : Prop := ∀ p ∈ l, Pq.GoodP p (Hj.chan G) G.m
/-- what is so at the loops' rounds -/
def PxOut (w3 : World) (N : Nat) (G : Hd.H) (u6 u7 : Value) (wr : World) : Prop :=
  ∃ (i : Nat) (gs : List Int) (v : Value), i ≤ N ∧ u7 = .int .i64 i ∧ v = u6 ∧ wr.ownsRow w3.heap.size 71 1 v i (pixs gs) ∧ gs.length = i ∧ Pl.Fits G gs ∧ Below w3.heap.size w3 wr
def PxIn (w3 : World) (c i : Nat) (gs : List Int) (v u8 u9 : Value) (wr : World) : Prop :=
  ∃ (k : Nat) (zs : List Int) (u : Value), k ≤ c ∧ u9 = .int .i64 k ∧ u = u8 ∧ wr.ownsRow w3.heap.size 3 1 u k (ints zs) ∧ zs.length = k ∧ (∀ x ∈ zs, Nu.I x) ∧ wr.ownsRow w3.heap.size 71 1 v i (pixs gs) ∧ Below w3.heap.size w3 wr
/-- what Pixels hands back -/
def PxR (N : Nat) (G : Hd.H) (w : World) (e : Ending) (w' : World) : Prop :=
  ∃ ad cp l, e = .returned (.slice ad N cp) ∧ l.length = N ∧ Pl.Fits G l ∧ w'.ownsRow w.heap.size 71 1 (.slice ad N cp) N (pixs l) ∧ Below w.heap.size w w'
set_option maxRecDepth 100000 in
set_option maxHeartbeats 4000000 in
theorem refPixels_zero (a : Option Addr) (ln cap : Nat) (z : List Int) (G : Hd.H) (hm : Pl.May G) (N : Nat) (hN : G.w * G.h = (N : Int)) (hN1 : N ≤ 100000) (w : World) (hz : ln = 0) (hs : SlK .i64 w a ln z) (hI : ∀ x ∈ z, Nu.I x) :
    Calls Try.prog 38 #[.slice a ln cap, agH G] w (PxR N G w) := by
  have hmm := hm.m
  have hF := refFormat_any G hm.1
  have hcc := Hj.chan_at G
  unfold Hj.fm agH at hF
  obtain ⟨i0, hi, hz0, hz1, hz2⟩ : ∃ i, Try.prog.info? 3 = some i ∧ i.zero = some (.int .i64 0) ∧ i.size = 1 ∧ i.bytes = 8 := (by have h := Try.info_in8; cases hh : Try.prog.info? 3 with | none => rw [hh] at h; cases h | some i => rw [hh] at h; simp at h; exact ⟨i, rfl, h.1, h.2.1, h.2.2⟩)
  obtain ⟨p0, pi, pz0, pz1, pz2⟩ : ∃ i, Try.prog.info? 71 = some i ∧ i.zero = some (.int .u64 0) ∧ i.size = 1 ∧ i.bytes = 8 := (by have h := Try.info_px8; cases hh : Try.prog.info? 71 with | none => rw [hh] at h; cases h | some i => rw [hh] at h; simp at h; exact ⟨i, rfl, h.1, h.2.1, h.2.2⟩)
  have hte : 3 ≠ 71 := by decide
  obtain ⟨c, hc⟩ : ∃ c : Nat, Hj.chan G = (c : Int) := ⟨(Hj.chan G).toNat, by omega⟩
  have hc13 : c = 1 ∨ c = 3 := by omega
  have HGP : Hid (∀ l, Pq.GoodP (Pq.Px.goodV l c G.m) c G.m) := Lib.hid fun l => Pq.good_is l (by omega) (by omega) (by omega)
  have HGS : Hid (∀ (a : Option Addr) (len cap : Nat) (l : List Int) (W : World), len ≤ 9223372036854775807 → (∀ x ∈ l, Nu.I x) → Pq.Sl W a len l → Calls Try.prog 64 #[.slice a len cap, .agg #[.int .i64 c, .int .i64 G.m]] W fun e w' => e = .returned (.int .u64 (Pq.Px.goodV l c G.m)) ∧ Below W.heap.size W w') := Lib.hid fun a len cap l W h1 h2 h3 => Pq.good_sl a len cap l c G.m h1 (fun x hx => h2 x hx) (by omega) (by omega) (by omega) W h3
  rw [hc] at hF
  have HF := Lib.hid hF
  have HS := Lib.hid hs
  subst hz
  have HI := Lib.hid hI
  have HC := Lib.hid hc
  have HN := Lib.hid hN
  have gN : wrap64 (G.w * G.h) = (N : Int) := by rw [hN, IntWalk.wrap64_in] <;> omega
  clear hF hs hI hc hN hmm hm hcc
  unfold agH
  go_enter Try.func38, Try.ntmps38
  go_wp2_with fail
  refine (HF.out _).mono ?_
  rintro e w1 ⟨rfl, hb⟩
  have HB1 := Lib.hid (((Below.refl _ w).alloc (Nat.le_refl _) _).trans (hb.mono (by simp)))
  have HK1 := Lib.hid ((Hb.new w 25 G).later hb)
  clear hb
  go_upto_region 3 with fail
  generalize hW : w1.alloc (.cells #[.int .i64 c, .int .i64 G.m] 108) = w3
  have hx : Below w1.heap.size w1 w3 := by rw [← hW]; exact box1' _ _
  have l0 : w3.cell? ⟨w1.heap.size, 0, none⟩ = some (.int .i64 c) := by rw [← hW]; simp [go_sem]
  have l1 : w3.cell? ⟨w1.heap.size, 1, none⟩ = some (.int .i64 G.m) := by rw [← hW]; simp [go_sem]
  have HB3 := Lib.hid (HB1.out.trans (hx.mono HB1.out.size))
  have HK3 := Lib.hid (HK1.out.later hx)
  have HL0 := Lib.hid l0
  have HL1 := Lib.hid l1
  clear hW hx l0 l1 HB1 HK1
  go_wp2_with fail
  go_loopw [6, 7] (fun u6 u7 wr => PxOut w3 N G u6 u7 wr) (fun _ u7 _ => N - (intOf u7).toNat)
  case atStart => exact ⟨0, [], _, Nat.zero_le _, rfl, rfl, World.ownsRow_nil _ _ _ _, rfl, (fun p hp => by cases hp), .refl _ _⟩
  case round =>
    obtain ⟨i, gs, v, hi1, rfl, rfl, hrow, hgl, hfit, hB⟩ := hrel
    have HROW := Lib.hid hrow
    have HFIT := Lib.hid hfit
    have HGL := Lib.hid hgl
    have HB := Lib.hid hB
    have hK := HK3.out.later hB
    obtain ⟨k0, k1, k2, k3⟩ := hK.cells
    clear hrow hfit hgl hB hK
    by_cases hlt : i < N
    · have hP : (i : Int) * (c : Int) = ((i * c : Nat) : Int) := by simp
      obtain ⟨P, hPP⟩ : ∃ P : Nat, i * c = P := ⟨_, rfl⟩
      rw [hPP] at hP
      have hP1 : P ≤ 300000 := by rw [← hPP]; rcases hc13 with h | h <;> subst h <;> omega
      have gP : wrap64 ((i : Int) * (c : Int)) = (P : Int) := by rw [hP, IntWalk.wrap64_in] <;> omega
      have HP := Lib.hid hP
      clear hP hPP
      go_wp2_with fail
      clear k0 k1 k2 k3 gN
      go_loopw [8, 9, 10] (fun u8 u9 u10 wr => PxIn w3 c i gs v u8 u9 wr) (fun _ u9 _ _ => c - (intOf u9).toNat)
      case atStart => exact ⟨0, [], _, Nat.zero_le _, rfl, rfl, World.ownsRow_nil _ _ _ _, rfl, (fun x hx => by cases hx), HROW.out, HB.out⟩
      case round =>
        obtain ⟨k, zs, u, hk1, rfl, rfl, hro, hzl, hzI, hrp, hC⟩ := hrel
        have HRO := Lib.hid hro
        have HZI := Lib.hid hzI
        have HZL := Lib.hid hzl
        have HRP := Lib.hid hrp
        have HC2 := Lib.hid hC
        have l0 := cell_later hC HL0.out
        have l1 := cell_later hC HL1.out
        clear hro hzI hzl hrp hC HROW HB
        by_cases hkt : k < c
        · have hck : c ≤ 3 := by omega
          go_wp2_with (at_builtin; refine wpList_app rfl _ _ 69 rfl w3.heap.size 3 i0 .i64 8 Try.underlying69 hi hz0 hz1 hz2 u k (ints zs) rfl (HRO.out.alloc _) (some ⟨_, 0, none⟩) 1 1 [0] rfl (one_slk _ _ _ _) (by unfold maxLen; omega) (by omega) (by have := HC2.out.size; simp; omega) ?_; intro v2 w5 hown hgrow hat; have HO5 := Lib.hid hown; have HR5 := Lib.hid ((HRP.out.alloc _).kept hgrow (apart_rows (Ne.symm hte) HRP.out HRO.out)); have HC5 := Lib.hid ((HC2.out.alloc HC2.out.size _).grown hgrow (by have := HC2.out.size; simp; omega) (fun j ej => (HRO.out.lt j ej).1)); clear hown hgrow hat)
          go_roundw
          case rel => exact ⟨k + 1, zs ++ [0], v2, by omega, by go_num, rfl, by have h := HO5.out; unfold ints; rw [List.map_append]; exact h, by rw [List.length_append, HZL.out]; rfl, (fun x hx => by
            rcases List.mem_append.1 hx with h | h
            · exact HZI.out x h
            · rw [List.mem_singleton.1 h]; unfold Nu.I; omega), HR5.out, HC5.out⟩
          case measure => simp [intOf]; omega
        · have hkc : k = c := by omega
          subst hkc
          obtain ⟨a', c', rfl, hsl⟩ := sl_of_row (z := 0) rfl HRO.out HZL.out
          have HSL := Lib.hid hsl
          obtain ⟨g, hg⟩ : ∃ g, Pq.Px.goodV zs k G.m = g := ⟨_, rfl⟩
          have HGG := Lib.hid hg
          clear hsl hg
          have hk9 : k ≤ 3 := by omega
          go_wp2_with (first
            | (at_builtin; refine wpList_app rfl _ _ 52 rfl w3.heap.size 71 p0 .u64 8 Try.underlying52 pi pz0 pz1 pz2 v i (pixs gs) rfl (HR9.out.alloc _) (some ⟨_, 0, none⟩) 1 1 [g] rfl (one_slk _ _ _ _) (by unfold maxLen; omega) (by omega) (by have := HC9.out.size; simp; omega) ?_; intro v2 w5 hown hgrow hat; have HO5 := Lib.hid hown; have HC5 := Lib.hid ((HC9.out.alloc HC9.out.size _).grown hgrow (by have := HC9.out.size; simp; omega) (fun j ej => (HR9.out.lt j ej).1)); clear hown hgrow hat)
            | (go_at_call 64; refine (HGS.out a' k c' zs _ (by omega) HZI.out HSL.out).mono ?_; rw [HGG.out]; rintro e w9 ⟨rfl, hb⟩; have HR9 := Lib.hid (below_row HRP.out hb); have HC9 := Lib.hid (HC2.out.trans (hb.mono HC2.out.size)); clear hb))
          go_roundw
          case rel => exact ⟨i + 1, gs ++ [g], v2, by omega, by go_num, rfl, by have h := HO5.out; unfold pixs; rw [List.map_append]; exact h, by rw [List.length_append, HGL.out]; rfl, (fun x hx => by
            rcases List.mem_append.1 hx with h | h
            · exact HFIT.out x h
            · rw [List.mem_singleton.1 h, ← HGG.out, HC.out]; exact HGP.out zs), HC5.out⟩
          case measure => simp [intOf]; omega
    · have hiN : i = N := by omega
      obtain ⟨ad, cp, rfl, _⟩ : ∃ ad cp, v = .slice ad i cp ∧ True := by
        rcases HROW.out.2 with ⟨rfl, rfl⟩ | ⟨g, cap, cur, rfl, _⟩
        · exact ⟨none, 0, rfl, trivial⟩
        · exact ⟨_, _, rfl, trivial⟩
      subst hiN
      go_wp2
      go_ret
      exact ⟨ad, cp, gs, rfl, HGL.out, HFIT.out, ownsRow_base HROW.out (HB3.out.size), HB3.out.trans (HB.out.mono HB3.out.size)⟩
end Go.Proofs.Ytflpocnbmpdhiaa

/- What runs in a list, over any memory, of bits and of the document's own answer; numbers made 0 or 1. Condition: numbers fit their kinds. -/
namespace Go.Proofs.Ytflpocnbmpdhiaa
open Go.RowKit Go.Shelf
set_option linter.unusedVariables false
namespace Bt
def isOne (x : Int) : Bool := decide (x ≠ 0)
def runsAux : Bool → Int → List Int → List Int
  | b, n, [] => [n]
  | b, n, x :: l => if isOne x = b then runsAux b (n + 1) l else n :: runsAux (!b) 1 l
def runsV (l : List Int) : List Int := if l = [] then [] else runsAux false 0 l
theorem runs_same {b : Bool} {n x : Int} {l : List Int} (h : isOne x = b) : runsAux b n (x :: l) = runsAux b (n + 1) l := by rw [runsAux, if_pos h]
theorem runs_other {b : Bool} {n x : Int} {l : List Int} (h : isOne x ≠ b) : runsAux b n (x :: l) = n :: runsAux (!b) 1 l := by rw [runsAux, if_neg h]
theorem runs_turn {b : Bool} {n x : Int} {l : List Int} (h : isOne x ≠ b) : runsAux b n (x :: l) = n :: runsAux (!b) 0 (x :: l) := by
  rw [runs_other h, runs_same (show isOne x = !b by cases h1 : isOne x <;> cases b <;> simp_all)]; rfl
theorem drop_next (l : List Int) (k : Nat) (h : k < l.length) : l.drop k = l.getD k 0 :: l.drop (k + 1) := by
  rw [List.drop_eq_getElem_cons h, List.getD_eq_getElem?_getD, List.getElem?_eq_getElem h]; rfl
/-- a list of integers in a row that the call owns -/
def LsR (xs : List Int) (w : World) (e : Ending) (w' : World) : Prop :=
  ∃ ad cap, e = .returned (.slice ad xs.length cap) ∧ w'.ownsRow w.heap.size 3 1 (.slice ad xs.length cap) xs.length (xs.map (Value.int .i64)) ∧ Below w.heap.size w w'
def onesV (l : List Int) (most : Nat) : List Int := (l.take most).map fun x => if x % 2 = 0 then 0 else 1
theorem onesV_01 (l : List Int) (m : Nat) : Ones (onesV l m) := by
  intro x hx
  obtain ⟨y, _, rfl⟩ := List.mem_map.1 hx
  split <;> simp
theorem onesV_len (l : List Int) (m : Nat) : (onesV l m).length = min m l.length := by simp [onesV]
theorem getD_mem (l : List Int) (k : Nat) (h : k < l.length) : l.getD k 0 ∈ l := by
  rw [List.getD_eq_getElem?_getD, List.getElem?_eq_getElem h]; exact List.getElem_mem _
theorem tmod2 (x : Int) : x.tmod 2 = 0 ↔ x % 2 = 0 := by
  by_cases h : 0 ≤ x
  · rw [Int.tmod_eq_emod_of_nonneg h]
  · have e : x.tmod 2 = -((-x).tmod 2) := by rw [← Int.neg_tmod, Int.neg_neg]
    rw [e, Int.tmod_eq_emod_of_nonneg (by omega)]
    omega
end Bt
end Go.Proofs.Ytflpocnbmpdhiaa

/- What runs in a list, over any memory, of bits. Condition: numbers fit their kinds. -/
namespace Go.Proofs.Ytflpocnbmpdhiaa
open Go.RowKit Go.Shelf
set_option linter.unusedVariables false
namespace Bt
theorem snoc_get (R : List Int) (c : Int) (q : Nat) (h : R.length = q) : ((R ++ [c]).map (Value.int .i64))[q]? = some (.int .i64 c) := by subst h; simp
theorem snoc_set (R : List Int) (c d : Int) (q : Nat) (h : R.length = q) : ((R ++ [c]).map (Value.int .i64)).set q (.int .i64 d) = (R ++ [d]).map (Value.int .i64) := by subst h; simp
theorem snoc2 (R : List Int) (c : Int) (q : Nat) (h : R.length = q) : ((R ++ [c]).map (Value.int .i64) ++ [.int .i64 0])[q + 1]? = some (.int .i64 0) := by subst h; simp
theorem snoc_two (R : List Int) (c : Int) : (R ++ [c]).map (Value.int .i64) ++ [.int .i64 0] = ((R ++ [c]) ++ [0]).map (Value.int .i64) := by simp
end Bt
end Go.Proofs.Ytflpocnbmpdhiaa

/- What runs in a list, by the document's own answer, over any memory. Condition: numbers fit their kinds. -/
namespace Go.Proofs.Ytflpocnbmpdhiaa
open Go.RowKit Go.Shelf
set_option linter.unusedVariables false
namespace Bt
def restR (l : List Int) (n k : Nat) (b : Bool) : List Int := if k < n then runsAux b 0 (l.drop k) else []
def oddN (i : Nat) : Bool := decide (i % 2 = 1)
theorem oddN_succ (i : Nat) : oddN (i + 1) = !oddN i := by
  unfold oddN
  rcases Nat.mod_two_eq_zero_or_one i with h | h
  · rw [h, show (i + 1) % 2 = 1 by omega]; rfl
  · rw [h, show (i + 1) % 2 = 0 by omega]; rfl
theorem oddN_f {i : Nat} (h : oddN i = false) : (i : Int) % 2 = 0 := by unfold oddN at h; simp at h; omega
theorem oddN_t {i : Nat} (h : oddN i = true) : (i : Int) % 2 = 1 := by unfold oddN at h; simp at h; omega
theorem is_t {x : Int} (h : x ≠ 0) : isOne x = true := by simp [isOne, h]
theorem is_f : isOne 0 = false := rfl
end Bt
end Go.Proofs.Ytflpocnbmpdhiaa

/- What has such runs, over any memory, of bits and of the document's own answer. Condition: numbers fit their kinds. -/
namespace Go.Proofs.Ytflpocnbmpdhiaa
open Go.RowKit Go.Shelf
set_option linter.unusedVariables false
namespace Bt
def unAux : Nat → List Int → List Int → List Int
  | _, out, [] => out
  | i, out, x :: l => if 4096 < out.length + x.toNat then [] else unAux (i + 1) (out ++ List.replicate x.toNat ((i : Int) % 2)) l
def unV (l : List Int) : List Int := unAux 0 [] l
theorem un_stop {i : Nat} {out l : List Int} {x : Int} (h : 4096 < out.length + x.toNat) : unAux i out (x :: l) = [] := by rw [unAux, if_pos h]
theorem un_go {i : Nat} {out l : List Int} {x : Int} (h : ¬ 4096 < out.length + x.toNat) : unAux i out (x :: l) = unAux (i + 1) (out ++ List.replicate x.toNat ((i : Int) % 2)) l := by rw [unAux, if_neg h]
theorem rep_push (out : List Int) (j : Nat) (v : Int) : (out ++ List.replicate j v).map (Value.int .i64) ++ [.int .i64 v] = (out ++ List.replicate (j + 1) v).map (Value.int .i64) := by
  rw [List.replicate_succ']; simp
end Bt
end Go.Proofs.Ytflpocnbmpdhiaa

/- When two lists of numbers are the same, by the document's own answer, over any memory. Condition: a length fits an int. -/
namespace Go.Proofs.Ytflpocnbmpdhiaa
open Go.RowKit
set_option linter.unusedVariables false

namespace Sm
def Alike (x y : List Int) (k : Nat) : Prop := ∀ i, i < k → x.getD i 0 = y.getD i 0
theorem alike_all {x y : List Int} {n : Nat} (hx : x.length = n) (hy : y.length = n) (h : Alike x y n) : x = y := by
  refine List.ext_getElem (by rw [hx, hy]) fun i h1 h2 => ?_
  have := h i (by omega)
  rw [List.getD_eq_getElem?_getD, List.getD_eq_getElem?_getD, List.getElem?_eq_getElem h1, List.getElem?_eq_getElem h2] at this
  simpa using this
theorem alike_succ {x y : List Int} {k : Nat} (h : Alike x y k) (e : x.getD k 0 = y.getD k 0) : Alike x y (k + 1) := fun i hi => by
  rcases Nat.lt_or_ge i k with h1 | h1
  · exact h i h1
  · obtain rfl : i = k := by omega
    exact e

theorem bret {a b : Bool} (h : a = b) : Ending.returned (.bool a) = .returned (.bool b) := by rw [h]
theorem bdn {B : Nat} {a w : World} (h : Below B a w) (n : Nat) : Below B a (w.drewN n) := h.trans ⟨rfl, rfl, rfl, Nat.le_refl _, fun _ _ => rfl⟩
end Sm
end Go.Proofs.Ytflpocnbmpdhiaa

/- A row's spare bits, over any memory, of bits and of the document's own answer. Condition: numbers fit their kinds. -/
namespace Go.Proofs.Ytflpocnbmpdhiaa
open Go.RowKit Go.Shelf
set_option linter.unusedVariables false
namespace Bt
/-- the spare bits of a row of n bytes -/
def spareN (zs : List Int) (W n : Nat) : Int := num (((bitsOf zs).take (8 * n)).drop W) 0
def spareV (zs : List Int) (W : Int) : Int := if rowE zs.length W = 0 then spareN zs W.toNat (bytesV W).toNat else 0
theorem num_bound : ∀ (l : List Int) (n : Int), (∀ x ∈ l, x = 0 ∨ x = 1) → 0 ≤ n → 0 ≤ num l n ∧ num l n + 1 ≤ (n + 1) * 2 ^ l.length
  | [], n, _, h => by simp [num, h]
  | x :: l, n, hx, h => by
    have h1 := hx x (by simp)
    have h2 := num_bound l (n * 2 + x) (fun y hy => hx y (by simp [hy])) (by omega)
    refine ⟨h2.1, Int.le_trans h2.2 ?_⟩
    rw [List.length_cons, Int.pow_succ, ← Int.mul_assoc, Int.mul_right_comm]
    exact Int.mul_le_mul_of_nonneg_right (by omega) (by exact Int.pow_nonneg (by omega))
theorem eight_low (c : Int) (h0 : 0 ≤ c) (h1 : c ≤ 255) (s : Nat) (hs : s < 8) : num ((eight c).drop (8 - s)) 0 = c % 2 ^ s := by
  obtain rfl | rfl | rfl | rfl | rfl | rfl | rfl | rfl : s = 0 ∨ s = 1 ∨ s = 2 ∨ s = 3 ∨ s = 4 ∨ s = 5 ∨ s = 6 ∨ s = 7 := by omega
  all_goals simp [eight, num]
  all_goals omega
theorem bits_part (zs : List Int) (n : Nat) (hn : n + 1 ≤ zs.length) : (bitsOf zs).take (8 * (n + 1)) = (bitsOf (zs.take n)) ++ eight (zs.getD n 0) := by
  have h1 := take_next zs n (by omega)
  have h2 : (bitsOf zs).take (8 * (n + 1)) = bitsOf (zs.take (n + 1)) := by
    have h3 : bitsOf zs = bitsOf (zs.take (n + 1)) ++ bitsOf (zs.drop (n + 1)) := by rw [← bitsOf_append, List.take_append_drop]
    rw [h3, List.take_append_of_le_length (by rw [bitsOf_len, List.length_take]; omega), List.take_of_length_le (by rw [bitsOf_len, List.length_take]; omega)]
  rw [h2, ← h1, bitsOf_append]
  simp [bitsOf]
theorem spare_last (zs : List Int) (W n s : Nat) (hz : ∀ z ∈ zs, 0 ≤ z ∧ z ≤ 255) (hn : n + 1 ≤ zs.length) (hs : s < 8) (hW : W + s = 8 * (n + 1)) : spareN zs W (n + 1) = zs.getD n 0 % 2 ^ s := by
  have hc := hz (zs.getD n 0) (by rw [List.getD_eq_getElem?_getD, List.getElem?_eq_getElem (by omega)]; exact List.getElem_mem _)
  unfold spareN
  rw [bits_part zs n hn, List.drop_append, bitsOf_len, List.length_take, List.drop_eq_nil_of_le (by rw [bitsOf_len, List.length_take]; omega), List.nil_append, show W - 8 * min n zs.length = 8 - s by omega]
  exact eight_low _ hc.1 hc.2 s hs
end Bt
end Go.Proofs.Ytflpocnbmpdhiaa

/- The byte of eight bits, over any memory. Condition: bits are 0 or 1. -/
namespace Go.Proofs.Ytflpocnbmpdhiaa
open Go.RowKit
set_option linter.unusedVariables false
namespace Bt
theorem or1 (n x : Int) (h : 0 ≤ n) (h2 : n ≤ 127) (a : 0 ≤ x) (b : x ≤ 1) : Go.bits BinOp.or IntKind.u8 (n * 2) x = n * 2 + x := by
  obtain ⟨n, rfl⟩ : ∃ m : Nat, n = m := ⟨n.toNat, by omega⟩
  obtain ⟨x, rfl⟩ : ∃ m : Nat, x = m := ⟨x.toNat, by omega⟩
  have := u8_or_nat (n * 2) x (by omega) (by omega)
  rw [Int.natCast_mul] at this
  rw [show ((2 : Nat) : Int) = 2 from rfl] at this
  rw [this]
  have e : n * 2 ||| x = n * 2 + x := by
    rw [show n * 2 = 2 ^ 1 * n by omega]
    exact (Nat.two_pow_add_eq_or_of_lt (i := 1) (by omega) n).symm
  rw [e]; omega
set_option maxRecDepth 100000 in
theorem join_any (x7 x6 x5 x4 x3 x2 x1 x0 : Int) (a7 : 0 ≤ x7) (b7 : x7 ≤ 1) (a6 : 0 ≤ x6) (b6 : x6 ≤ 1) (a5 : 0 ≤ x5) (b5 : x5 ≤ 1) (a4 : 0 ≤ x4) (b4 : x4 ≤ 1) (a3 : 0 ≤ x3) (b3 : x3 ≤ 1) (a2 : 0 ≤ x2) (b2 : x2 ≤ 1) (a1 : 0 ≤ x1) (b1 : x1 ≤ 1) (a0 : 0 ≤ x0) (b0 : x0 ≤ 1) (w : World) :
    Calls Try.prog 118 #[.agg #[.int .i64 x7, .int .i64 x6, .int .i64 x5, .int .i64 x4, .int .i64 x3, .int .i64 x2, .int .i64 x1, .int .i64 x0]] w fun e w' => e = .returned (.int .u8 (num [x7, x6, x5, x4, x3, x2, x1, x0] 0)) ∧ Below w.heap.size w w' := by
  have N : ∀ n m x : Int, 0 ≤ n → n ≤ m → 0 ≤ x → x ≤ 1 → m ≤ 127 → ∃ r, Go.bits BinOp.or IntKind.u8 (n * 2) x = r ∧ 0 ≤ r ∧ r ≤ m * 2 + 1 ∧ Hid (n * 2 + x = r) := fun n m x h k a b c => ⟨n * 2 + x, or1 n x h (by omega) a b, by omega, by omega, Lib.hid rfl⟩
  have i0 : ∀ w, (Instr.index 163 (.agg #[.int .i64 x7, .int .i64 x6, .int .i64 x5, .int .i64 x4, .int .i64 x3, .int .i64 x2, .int .i64 x1, .int .i64 x0]) (.int .i64 0)).run Try.prog w = .ok (.int .i64 x7) w := fun _ => by kernel_rfl
  have i1 : ∀ w, (Instr.index 163 (.agg #[.int .i64 x7, .int .i64 x6, .int .i64 x5, .int .i64 x4, .int .i64 x3, .int .i64 x2, .int .i64 x1, .int .i64 x0]) (.int .i64 1)).run Try.prog w = .ok (.int .i64 x6) w := fun _ => by kernel_rfl
  have i2 : ∀ w, (Instr.index 163 (.agg #[.int .i64 x7, .int .i64 x6, .int .i64 x5, .int .i64 x4, .int .i64 x3, .int .i64 x2, .int .i64 x1, .int .i64 x0]) (.int .i64 2)).run Try.prog w = .ok (.int .i64 x5) w := fun _ => by kernel_rfl
  have i3 : ∀ w, (Instr.index 163 (.agg #[.int .i64 x7, .int .i64 x6, .int .i64 x5, .int .i64 x4, .int .i64 x3, .int .i64 x2, .int .i64 x1, .int .i64 x0]) (.int .i64 3)).run Try.prog w = .ok (.int .i64 x4) w := fun _ => by kernel_rfl
  have i4 : ∀ w, (Instr.index 163 (.agg #[.int .i64 x7, .int .i64 x6, .int .i64 x5, .int .i64 x4, .int .i64 x3, .int .i64 x2, .int .i64 x1, .int .i64 x0]) (.int .i64 4)).run Try.prog w = .ok (.int .i64 x3) w := fun _ => by kernel_rfl
  have i5 : ∀ w, (Instr.index 163 (.agg #[.int .i64 x7, .int .i64 x6, .int .i64 x5, .int .i64 x4, .int .i64 x3, .int .i64 x2, .int .i64 x1, .int .i64 x0]) (.int .i64 5)).run Try.prog w = .ok (.int .i64 x2) w := fun _ => by kernel_rfl
  have i6 : ∀ w, (Instr.index 163 (.agg #[.int .i64 x7, .int .i64 x6, .int .i64 x5, .int .i64 x4, .int .i64 x3, .int .i64 x2, .int .i64 x1, .int .i64 x0]) (.int .i64 6)).run Try.prog w = .ok (.int .i64 x1) w := fun _ => by kernel_rfl
  have i7 : ∀ w, (Instr.index 163 (.agg #[.int .i64 x7, .int .i64 x6, .int .i64 x5, .int .i64 x4, .int .i64 x3, .int .i64 x2, .int .i64 x1, .int .i64 x0]) (.int .i64 7)).run Try.prog w = .ok (.int .i64 x0) w := fun _ => by kernel_rfl
  obtain ⟨n1, e1, l1, u1, H1⟩ := N 0 0 x7 (by omega) (by omega) a7 b7 (by omega)
  rw [Int.zero_mul] at e1
  obtain ⟨n2, e2, l2, u2, H2⟩ := N n1 1 x6 (by omega) (by omega) a6 b6 (by omega)
  obtain ⟨n3, e3, l3, u3, H3⟩ := N n2 3 x5 (by omega) (by omega) a5 b5 (by omega)
  obtain ⟨n4, e4, l4, u4, H4⟩ := N n3 7 x4 (by omega) (by omega) a4 b4 (by omega)
  obtain ⟨n5, e5, l5, u5, H5⟩ := N n4 15 x3 (by omega) (by omega) a3 b3 (by omega)
  obtain ⟨n6, e6, l6, u6, H6⟩ := N n5 31 x2 (by omega) (by omega) a2 b2 (by omega)
  obtain ⟨n7, e7, l7, u7, H7⟩ := N n6 63 x1 (by omega) (by omega) a1 b1 (by omega)
  obtain ⟨n8, e8, l8, u8, H8⟩ := N n7 127 x0 (by omega) (by omega) a0 b0 (by omega)
  have X := Lib.hid (show n8 = num [x7, x6, x5, x4, x3, x2, x1, x0] 0 by simp only [num]; rw [H1.out, H2.out, H3.out, H4.out, H5.out, H6.out, H7.out, H8.out])
  clear N
  go_enter Try.func118, Try.ntmps118
  go_wp2
  go_rounds 9
  go_ret
  exact ⟨ret_i X.out, by go_grown⟩
end Bt
end Go.Proofs.Ytflpocnbmpdhiaa

/- slices.Reverse of integers: the row is reversed in place, over any memory. No condition beyond the model's bound on a length. -/
namespace Go.Proofs.Ytflpocnbmpdhiaa
open Go.RowKit Go.Lib Go.Sort
end Go.Proofs.Ytflpocnbmpdhiaa

/- How far a number is from 0, and what its digits' iterator hands out, over any memory. Condition: numbers fit their kinds. -/
namespace Go.Proofs.Ytflpocnbmpdhiaa
open Go.RowKit Go.Shelf
attribute [local go_sem] Oper.semAt_some
set_option linter.unusedVariables false

theorem ret_i {k : IntKind} {a b : Int} (h : a = b) : Ending.returned (.int k a) = .returned (.int k b) := by rw [h]
theorem size_any (n : Int) (hn : Nu.I n) (w : World) :
    Calls Try.prog 121 #[.int .i64 n] w fun e w' => e = .returned (.int .u64 n.natAbs) ∧ w = w' := by
  obtain ⟨h1, h2⟩ := hn
  by_cases h : n < 0
  · have X : Hid (IntKind.u64.wrap (-(IntKind.u64.wrap n)) = (n.natAbs : Int)) := by show _ = _; simp [IntKind.wrap, IntKind.bits, IntKind.signed]; omega
    go_enter Try.func121, Try.ntmps121
    go_wp2
    go_ret
    exact ⟨ret_i X.out, rfl⟩
  · have X : Hid (n = (n.natAbs : Int)) := by show _ = _; omega
    have h0 : 0 ≤ n := by omega
    go_enter Try.func121, Try.ntmps121
    go_wp2
    go_ret
    exact ⟨ret_i X.out, rfl⟩

theorem digits_any (n b : Int) (w : World) :
    Calls Try.prog 120 #[.int .u64 n, .int .u64 b] w fun e w' =>
      e = .returned (.func (.func 136) #[] #[.pointer (some ⟨w.heap.size, 0, none⟩), .pointer (some ⟨w.heap.size + 1, 0, none⟩)]) ∧
      w' = (w.alloc (.cells #[.int .u64 n] 70)).alloc (.cells #[.int .u64 b] 70) := by
  go_enter Try.func120, Try.ntmps120
  go_wp2
  go_ret
  exact ⟨rfl, rfl⟩

/-- The digits' iterator is made: two cells of its own. -/
def Made (n b : Int) (w : World) (e : Ending) (w' : World) : Prop :=
  ∃ nb bb, e = .returned (.func (.func 136) #[] #[.pointer (some ⟨nb, 0, none⟩), .pointer (some ⟨bb, 0, none⟩)]) ∧ nb ≠ bb ∧ w.heap.size ≤ nb ∧ w.heap.size ≤ bb ∧
    w'.cell? ⟨nb, 0, none⟩ = some (.int .u64 n) ∧ w'.cell? ⟨bb, 0, none⟩ = some (.int .u64 b) ∧ w'.frozen? ⟨nb, 0, none⟩ = false ∧ Below w.heap.size w w'
theorem digits_made (n b : Int) (w : World) : Calls Try.prog 120 #[.int .u64 n, .int .u64 b] w (Made n b w) := by
  refine (digits_any n b w).mono ?_
  rintro e w' ⟨rfl, rfl⟩
  exact ⟨_, _, rfl, by omega, by omega, by omega, by simp [go_sem], by simp [go_sem], by simp [go_sem], ((Below.refl _ _).alloc (Nat.le_refl _) _).alloc (by simp) _⟩

/-- the number that a cell holds -/
def cellNat (nb : Nat) (w : World) : Nat := match w.cell? ⟨nb, 0, none⟩ with | some (.int _ x) => x.toNat | _ => 0
theorem cellNat_of {nb : Nat} {w : World} {k : IntKind} {x : Int} (h : w.cell? ⟨nb, 0, none⟩ = some (.int k x)) : cellNat nb w = x.toNat := by unfold cellNat; rw [h]

set_option maxRecDepth 100000 in
set_option maxHeartbeats 2000000 in
theorem digits_gives (n b : Int) (h0 : 0 ≤ n) (h1 : n ≤ 18446744073709551615) (hb : 2 ≤ b) (hb1 : b ≤ 18446744073709551615) (nb bb : Nat) (hne : nb ≠ bb) (W0 : World) (m : Nat) (hm : 1 ≤ m)
    (cn : W0.cell? ⟨nb, 0, none⟩ = some (.int .u64 n)) (cb : W0.cell? ⟨bb, 0, none⟩ = some (.int .u64 b)) (fn : W0.frozen? ⟨nb, 0, none⟩ = false) :
    Gives Fence.wide m Try.prog 136 #[.pointer (some ⟨nb, 0, none⟩), .pointer (some ⟨bb, 0, none⟩)] (fun x : Int => #[.int .u64 x]) (fun k => k = nb ∨ k = bb) (Nu.dig b n) W0 := by
  intro l J Jx W hW hJ hJx hY h00
  have hln : nb < W0.heap.size := block_lt_of_cell cn
  have hlb : bb < W0.heap.size := block_lt_of_cell cb
  have cn1 := hW.cell (.inl rfl) cn
  have cb1 := hW.cell (.inr rfl) cb
  have fn1 : W.frozen? ⟨nb, 0, none⟩ = false := (hW.frozen (.inl rfl) hln).trans fn
  clear cn cb fn hln hlb hW
  have hbz : (b == 0) = false := by simp; omega
  refine callsIn_of_wp Try.func136 rfl trivial ?_ rfl
  simp only [Try.ntmps136, List.size_toArray, List.length_cons, List.length_nil, Nat.reduceAdd, Nat.reduceSub, Array.replicate_succ, Array.replicate_zero, List.push_toArray, List.append_toArray, List.nil_append, List.cons_append]
  gi_wp2
  gi_loopw [16] (fun _ wr => ∃ (pre : List Int) (q : Int), 0 ≤ q ∧ q ≤ 18446744073709551615 ∧ Nu.dig b n = pre ++ Nu.dig b q ∧ J pre wr ∧ wr.cell? ⟨nb, 0, none⟩ = some (.int .u64 q) ∧ wr.cell? ⟨bb, 0, none⟩ = some (.int .u64 b) ∧ wr.frozen? ⟨nb, 0, none⟩ = false) (fun _ wr => cellNat nb wr)
  case atStart => exact ⟨[], n, h0, h1, rfl, h00, cn1, cb1, fn1⟩
  case round =>
    obtain ⟨pre, q, q0, q1, hx, hj, c1, c2, f1⟩ := hrel
    clear cn1 cb1 fn1 h00
    have M := Lib.hid (cellNat_of c1)
    have hmod : q % b < b := Int.emod_lt_of_pos _ (by omega)
    have hmod0 : 0 ≤ q % b := Int.emod_nonneg _ (by omega)
    have hn1 : nb < wr.heap.size := block_lt_of_cell c1
    by_cases hle : b ≤ q
    · have hx2 : Nu.dig b n = pre ++ q % b :: Nu.dig b (q / b) := by rw [hx, Nu.dig_more hb hle]
      obtain ⟨fn, tmps, assign, body, hy, hR⟩ := hY pre (q % b) (Nu.dig b (q / b)) wr hx2 hj
      have HX := Lib.hid hx2
      have hq0 : 0 ≤ q / b := Int.ediv_nonneg (by omega) (by omega)
      have hq1 : q / b ≤ q := Int.ediv_le_self _ (by omega)
      have hq2 : q / b < q := Int.ediv_lt_self_of_pos_of_ne_one (by omega) (by omega)
      clear hx hx2 hY
      gi_wp2
      refine hR.mono ?_
      rintro e W3 ⟨hh, (⟨rfl, hJ3⟩ | ⟨rfl, hJx3⟩)⟩
      · have c13 := hh.cell (.inl rfl) c1
        have c23 := hh.cell (.inr rfl) c2
        have f13 : W3.frozen? ⟨nb, 0, none⟩ = false := (hh.frozen (.inl rfl) hn1).trans f1
        clear hR hy c1 c2 f1
        gi_wp2
        go_roundw
        case rel => exact ⟨pre ++ [q % b], q / b, hq0, by omega, by rw [HX.out]; simp, hJ _ _ _ hJ3 (.setCell _ (.inl rfl) _), World.cell?_setCell_same' _ _ _ (by rw [c13]; rfl), by rw [World.cell?_setCell_other _ _ _ _ (by first | (simp; done) | (simp; omega))]; exact c23, by rw [World.frozen?_setCell]; exact f13⟩
        case measure => rw [M.out, cellNat_of (World.cell?_setCell_same' _ _ _ (by rw [c13]; rfl))]; omega
      · gi_wp2
        go_end0
        exact ⟨⟨_, rfl⟩, .inr ⟨pre ++ [q % b], ⟨Nu.dig b (q / b), by rw [HX.out]; simp⟩, hJx3⟩⟩
    · have hx2 : Nu.dig b n = pre ++ q % b :: [] := by rw [hx, Nu.dig_last (by omega)]
      obtain ⟨fn, tmps, assign, body, hy, hR⟩ := hY pre (q % b) [] wr hx2 hj
      have HX := Lib.hid hx2
      clear hx hx2 hY
      gi_wp2
      refine hR.mono ?_
      rintro e W3 ⟨hh, (⟨rfl, hJ3⟩ | ⟨rfl, hJx3⟩)⟩
      · have c13 := hh.cell (.inl rfl) c1
        have c23 := hh.cell (.inr rfl) c2
        clear hR hy c1 c2 f1
        gi_wp2
        go_end0
        exact ⟨⟨_, rfl⟩, .inl (by rw [HX.out]; exact hJ3)⟩
      · gi_wp2
        go_end0
        exact ⟨⟨_, rfl⟩, .inr ⟨pre ++ [q % b], ⟨[], by rw [HX.out]; simp⟩, hJx3⟩⟩
end Go.Proofs.Ytflpocnbmpdhiaa

/- How many bytes a number's decimals have, over any memory. Condition: the number fits its kind. -/
namespace Go.Proofs.Ytflpocnbmpdhiaa
open Go.RowKit Go.Shelf
attribute [local go_sem] Oper.semAt_some
set_option linter.unusedVariables false

def Nu.places (n : Int) : Int := (if n < 0 then 1 else 0) + (Nu.dig 10 n.natAbs).length

end Go.Proofs.Ytflpocnbmpdhiaa

/- How many digits pixels have, over any memory. Condition: not too many pixels. -/
namespace Go.Proofs.Ytflpocnbmpdhiaa
open Go.RowKit
set_option linter.unusedVariables false
namespace Pl
def dgL : List Int → Int
  | [] => 0
  | s :: r => Nu.places s + dgL r
def dgA : List Int → Int
  | [] => 0
  | p :: r => dgL (Pq.Px.smp p) + dgA r
theorem dgL_append (a b : List Int) : dgL (a ++ b) = dgL a + dgL b := by
  induction a with
  | nil => simp [dgL]
  | cons x r ih => simp only [List.cons_append, dgL, ih]; omega
theorem dgA_append (a b : List Int) : dgA (a ++ b) = dgA a + dgA b := by
  induction a with
  | nil => simp [dgA]
  | cons x r ih => simp only [List.cons_append, dgA, ih]; omega
theorem take_getD (l : List Int) (k : Nat) (h : k < l.length) : l.take (k + 1) = l.take k ++ [l.getD k 0] := by
  rw [List.take_succ_eq_append_getElem h, List.getD_eq_getElem?_getD, List.getElem?_eq_getElem h]; rfl
theorem dgL_succ (l : List Int) (k : Nat) (h : k < l.length) : dgL (l.take (k + 1)) = dgL (l.take k) + Nu.places (l.getD k 0) := by
  rw [take_getD l k h, dgL_append]; simp [dgL]
theorem dgA_succ (l : List Int) (k : Nat) (h : k < l.length) : dgA (l.take (k + 1)) = dgA (l.take k) + dgL (Pq.Px.smp (l.getD k 0)) := by
  rw [take_getD l k h, dgA_append]; simp [dgA]
theorem decV_len (n : Int) : ((Nu.decV n).length : Int) = Nu.places n := by
  unfold Nu.decV Nu.backV Nu.places
  rw [List.length_reverse, List.length_append, List.length_map]
  split <;> simp <;> omega
theorem places_in {n : Int} (hn : Nu.I n) : 0 ≤ Nu.places n ∧ Nu.places n ≤ 66 := by
  have := Nu.decV_len hn
  rw [← decV_len]; omega
theorem smp_in {p : Int} (hU : Pq.Px.U p) : (Pq.Px.smp p).length ≤ 3 ∧ ∀ s ∈ Pq.Px.smp p, 0 ≤ s ∧ s ≤ 65535 := by
  rcases Pq.Px.tri hU with ⟨a, b, c, h⟩ | ⟨a, h⟩ | h
  · rw [Pq.Px.smp3 h]
    obtain ⟨_, h⟩ := h
    refine ⟨by simp, fun s hs => ?_⟩
    simp only [List.mem_cons, List.not_mem_nil, or_false] at hs
    omega
  · rw [Pq.Px.smp1 h]
    obtain ⟨_, h⟩ := h
    refine ⟨by simp, fun s hs => ?_⟩
    simp only [List.mem_cons, List.not_mem_nil, or_false] at hs
    omega
  · rw [Pq.Px.smp0 h]
    exact ⟨by simp, fun s hs => by cases hs⟩
theorem dgL_in : ∀ {l : List Int}, (∀ s ∈ l, Nu.I s) → 0 ≤ dgL l ∧ dgL l ≤ 66 * l.length
  | [], _ => by simp [dgL]
  | s :: r, h => by
    have h1 := places_in (h s (List.mem_cons_self ..))
    have h2 := dgL_in (l := r) fun x hx => h x (List.mem_cons_of_mem _ hx)
    simp only [dgL, List.length_cons]; omega
theorem smp_I {p : Int} (hU : Pq.Px.U p) : ∀ s ∈ Pq.Px.smp p, Nu.I s := fun s hs => by have := (smp_in hU).2 s hs; unfold Nu.I; omega
theorem dgA_in : ∀ {l : List Int}, (∀ p ∈ l, Pq.Px.U p) → 0 ≤ dgA l ∧ dgA l ≤ 198 * l.length
  | [], _ => by simp [dgA]
  | p :: r, h => by
    have hU := h p (List.mem_cons_self ..)
    have h1 := dgL_in (smp_I hU)
    have h3 := (smp_in hU).1
    have h2 := dgA_in (l := r) fun x hx => h x (List.mem_cons_of_mem _ hx)
    simp only [dgA, List.length_cons]; omega
end Pl
theorem getD_mem {l : List Int} {k : Nat} (h : k < l.length) : l.getD k 0 ∈ l := by
  rw [List.getD_eq_getElem?_getD, List.getElem?_eq_getElem h]; exact List.getElem_mem h
end Go.Proofs.Ytflpocnbmpdhiaa

/- More plain facts on pixels as numbers: formats, gray, dark for light, another greatest sample. No condition. -/
namespace Go.Proofs.Ytflpocnbmpdhiaa
open Go.RowKit
namespace Pq
namespace Px
theorem fitsV_iff {p c m : Int} : fitsV p c m = (formatV c m && (((smp p).length : Int) == c && (smp p).all fun s => decide (s ≤ m))) := by
  cases hf : formatV c m
  · exact fitsV_bad hf
  · have hc := formatC hf
    unfold fitsV
    rw [hf, show ((smp p).length == c.toNat) = (((smp p).length : Int) == c) by rw [Bool.eq_iff_iff, beq_iff_eq, beq_iff_eq]; omega]
theorem fitsV3_all {p a b d c m : Int} (h : Is3 p a b d) (ha : a ≤ m) (hb : b ≤ m) (hd : d ≤ m) : fitsV p c m = (formatV c m && ((3 : Int) == c)) := by
  rw [fitsV_iff, smp3 h]; simp [ha, hb, hd]
theorem fitsV3_bad {p a b d c m : Int} (h : Is3 p a b d) (hx : m < a ∨ m < b ∨ m < d) : fitsV p c m = false := by
  rw [fitsV_iff, smp3 h]; simp; intros; omega
theorem fitsV1_all {p a c m : Int} (h : Is1 p a) (ha : a ≤ m) : fitsV p c m = (formatV c m && ((1 : Int) == c)) := by
  rw [fitsV_iff, smp1 h]; simp [ha]
theorem fitsV1_bad {p a c m : Int} (h : Is1 p a) (hx : m < a) : fitsV p c m = false := by
  rw [fitsV_iff, smp1 h]; simp; intros; omega
theorem fitsV0 {p c m : Int} (h : Is0 p) : fitsV p c m = false := by
  cases hf : formatV c m
  · exact fitsV_bad hf
  · have := formatC hf
    exact fitsV_len (by rw [smp0 h]; simp; omega)
theorem fits3_get {p a b d c m : Int} (h : Is3 p a b d) (hf : fitsV p c m = true) : c = 3 ∧ a ≤ m ∧ b ≤ m ∧ d ≤ m ∧ 1 ≤ m ∧ m ≤ 65535 := by
  rw [fitsV_iff, smp3 h] at hf
  simp at hf
  have := formatM hf.1
  omega
theorem fits1_get {p a c m : Int} (h : Is1 p a) (hf : fitsV p c m = true) : c = 1 ∧ a ≤ m ∧ 1 ≤ m ∧ m ≤ 65535 := by
  rw [fitsV_iff, smp1 h] at hf
  simp at hf
  have := formatM hf.1
  omega
theorem turned3 {p a b d c m : Int} (h : Is3 p a b d) (hf : fitsV p c m = true) : turnedV p c m = (844424930131968 + (m - a) * 4294967296 + (m - b) * 65536 + (m - d), 0) := by
  obtain ⟨h1, h2, h3, h4, h5, h6⟩ := fits3_get h hf
  unfold turnedV; rw [if_pos hf, smp3 h]
  obtain ⟨_, h⟩ := h
  show packV [m - a, m - b, m - d] = _
  exact packV3 (by omega) (by omega) (by omega) (by omega) (by omega) (by omega)
theorem turned1 {p a c m : Int} (h : Is1 p a) (hf : fitsV p c m = true) : turnedV p c m = (281474976710656 + (m - a), 0) := by
  obtain ⟨h1, h2, h5, h6⟩ := fits1_get h hf
  unfold turnedV; rw [if_pos hf, smp1 h]
  obtain ⟨_, h⟩ := h
  show packV [m - a] = _
  exact packV1 (by omega) (by omega)
theorem turned_no {p c m : Int} (hf : fitsV p c m = false) : turnedV p c m = (0, 1) := by unfold turnedV; rw [hf]; rfl
theorem fits0_no {p c m : Int} (h : Is0 p) (hf : fitsV p c m = true) : False := by rw [fitsV0 h] at hf; cases hf
end Px
end Pq
end Go.Proofs.Ytflpocnbmpdhiaa

/- What Fits, Good, Same and the example of the document's own answer come to, over any memory. Condition: numbers fit their kinds. -/
namespace Go.Proofs.Ytflpocnbmpdhiaa
open Go.RowKit
set_option linter.unusedVariables false
namespace Pq
theorem refFits3 (p c m a b d : Int) (h : Px.Is3 p a b d) (w : World) :
    Calls Try.prog 69 #[.int .u64 p, .agg #[.int .i64 c, .int .i64 m]] w fun e w' => e = .returned (.bool (Px.fitsV p c m)) ∧ Below w.heap.size w w' := by
  by_cases ha : m < a
  · have X := Lib.hid (Px.fitsV3_bad (c := c) h (.inl ha))
    go_enter Try.func69, Try.ntmps69
    go_wp2_with (go_at_call 70; refine (refUnpack3 p a b d h _).mono ?_; rintro e w1 ⟨g, cap, rfl, ⟨hg0, hg1, c0, c1, c2, f0, f1, f2⟩, hb1⟩)
    have d0 : w1.cell? ⟨w.heap.size, 0, none⟩ = some (.int .i64 c) := cell_later hb1 (by simp [go_sem])
    have d1 : w1.cell? ⟨w.heap.size, 1, none⟩ = some (.int .i64 m) := cell_later hb1 (by simp [go_sem])
    have hz : w.heap.size < w1.heap.size := by have := hb1.size; simp at this; omega
    have hb0 := box_below w _ _ hb1
    clear hb1
    refine wp_loop_rounds 4 ?_
    repeat any_goals (rw [rounds_succ]; go_wp2_with (first | go_quiet (fail) | (go_at_call 97; refine (refFormat_any _ _ _).mono ?_; rintro e w2 ⟨rfl, hb2⟩; have d2 : w2.cell? ⟨w.heap.size, 0, none⟩ = some (.int .i64 c) := cell_later hb2 (by simp [go_sem, d0]); have hb3 : Below w.heap.size w w2 := (by first | exact (below_drewN hb0 _).trans (hb2.mono (B' := w.heap.size) (by simp; omega)) | exact hb0.trans (hb2.mono (B' := w.heap.size) (by omega))); clear hb2)))
    all_goals go_ret
    all_goals first | exact ⟨ret_b X.out.symm, below_drewN hb0 _⟩ | exact ⟨ret_b X.out.symm, below_drewN (below_drewN hb0 _) _⟩ | exact ⟨ret_b X.out.symm, hb3⟩
  by_cases hb : m < b
  · have X := Lib.hid (Px.fitsV3_bad (c := c) h (.inr (.inl hb)))
    go_enter Try.func69, Try.ntmps69
    go_wp2_with (go_at_call 70; refine (refUnpack3 p a b d h _).mono ?_; rintro e w1 ⟨g, cap, rfl, ⟨hg0, hg1, c0, c1, c2, f0, f1, f2⟩, hb1⟩)
    have d0 : w1.cell? ⟨w.heap.size, 0, none⟩ = some (.int .i64 c) := cell_later hb1 (by simp [go_sem])
    have d1 : w1.cell? ⟨w.heap.size, 1, none⟩ = some (.int .i64 m) := cell_later hb1 (by simp [go_sem])
    have hz : w.heap.size < w1.heap.size := by have := hb1.size; simp at this; omega
    have hb0 := box_below w _ _ hb1
    clear hb1
    refine wp_loop_rounds 4 ?_
    repeat any_goals (rw [rounds_succ]; go_wp2_with (first | go_quiet (fail) | (go_at_call 97; refine (refFormat_any _ _ _).mono ?_; rintro e w2 ⟨rfl, hb2⟩; have d2 : w2.cell? ⟨w.heap.size, 0, none⟩ = some (.int .i64 c) := cell_later hb2 (by simp [go_sem, d0]); have hb3 : Below w.heap.size w w2 := (by first | exact (below_drewN hb0 _).trans (hb2.mono (B' := w.heap.size) (by simp; omega)) | exact hb0.trans (hb2.mono (B' := w.heap.size) (by omega))); clear hb2)))
    all_goals go_ret
    all_goals first | exact ⟨ret_b X.out.symm, below_drewN hb0 _⟩ | exact ⟨ret_b X.out.symm, below_drewN (below_drewN hb0 _) _⟩ | exact ⟨ret_b X.out.symm, hb3⟩
  by_cases hd : m < d
  · have X := Lib.hid (Px.fitsV3_bad (c := c) h (.inr (.inr hd)))
    go_enter Try.func69, Try.ntmps69
    go_wp2_with (go_at_call 70; refine (refUnpack3 p a b d h _).mono ?_; rintro e w1 ⟨g, cap, rfl, ⟨hg0, hg1, c0, c1, c2, f0, f1, f2⟩, hb1⟩)
    have d0 : w1.cell? ⟨w.heap.size, 0, none⟩ = some (.int .i64 c) := cell_later hb1 (by simp [go_sem])
    have d1 : w1.cell? ⟨w.heap.size, 1, none⟩ = some (.int .i64 m) := cell_later hb1 (by simp [go_sem])
    have hz : w.heap.size < w1.heap.size := by have := hb1.size; simp at this; omega
    have hb0 := box_below w _ _ hb1
    clear hb1
    refine wp_loop_rounds 4 ?_
    repeat any_goals (rw [rounds_succ]; go_wp2_with (first | go_quiet (fail) | (go_at_call 97; refine (refFormat_any _ _ _).mono ?_; rintro e w2 ⟨rfl, hb2⟩; have d2 : w2.cell? ⟨w.heap.size, 0, none⟩ = some (.int .i64 c) := cell_later hb2 (by simp [go_sem, d0]); have hb3 : Below w.heap.size w w2 := (by first | exact (below_drewN hb0 _).trans (hb2.mono (B' := w.heap.size) (by simp; omega)) | exact hb0.trans (hb2.mono (B' := w.heap.size) (by omega))); clear hb2)))
    all_goals go_ret
    all_goals first | exact ⟨ret_b X.out.symm, below_drewN hb0 _⟩ | exact ⟨ret_b X.out.symm, below_drewN (below_drewN hb0 _) _⟩ | exact ⟨ret_b X.out.symm, hb3⟩
  cases hf : Px.formatV c m
  · have X := Lib.hid (show Px.fitsV p c m = false by rw [Px.fitsV_bad hf])
    go_enter Try.func69, Try.ntmps69
    go_wp2_with (go_at_call 70; refine (refUnpack3 p a b d h _).mono ?_; rintro e w1 ⟨g, cap, rfl, ⟨hg0, hg1, c0, c1, c2, f0, f1, f2⟩, hb1⟩)
    have d0 : w1.cell? ⟨w.heap.size, 0, none⟩ = some (.int .i64 c) := cell_later hb1 (by simp [go_sem])
    have d1 : w1.cell? ⟨w.heap.size, 1, none⟩ = some (.int .i64 m) := cell_later hb1 (by simp [go_sem])
    have hz : w.heap.size < w1.heap.size := by have := hb1.size; simp at this; omega
    have hb0 := box_below w _ _ hb1
    clear hb1
    refine wp_loop_rounds 4 ?_
    repeat any_goals (rw [rounds_succ]; go_wp2_with (first | go_quiet (fail) | (go_at_call 97; refine (refFormat_any _ _ _).mono ?_; rintro e w2 ⟨rfl, hb2⟩; have d2 : w2.cell? ⟨w.heap.size, 0, none⟩ = some (.int .i64 c) := cell_later hb2 (by simp [go_sem, d0]); have hb3 : Below w.heap.size w w2 := (by first | exact (below_drewN hb0 _).trans (hb2.mono (B' := w.heap.size) (by simp; omega)) | exact hb0.trans (hb2.mono (B' := w.heap.size) (by omega))); clear hb2)))
    all_goals go_ret
    all_goals first | exact ⟨ret_b X.out.symm, below_drewN hb0 _⟩ | exact ⟨ret_b X.out.symm, below_drewN (below_drewN hb0 _) _⟩ | exact ⟨ret_b X.out.symm, hb3⟩
  cases k : ((3 : Int) == c)
  · have X := Lib.hid (show Px.fitsV p c m = false by rw [Px.fitsV3_all h (by omega) (by omega) (by omega), hf, k]; rfl)
    go_enter Try.func69, Try.ntmps69
    go_wp2_with (go_at_call 70; refine (refUnpack3 p a b d h _).mono ?_; rintro e w1 ⟨g, cap, rfl, ⟨hg0, hg1, c0, c1, c2, f0, f1, f2⟩, hb1⟩)
    have d0 : w1.cell? ⟨w.heap.size, 0, none⟩ = some (.int .i64 c) := cell_later hb1 (by simp [go_sem])
    have d1 : w1.cell? ⟨w.heap.size, 1, none⟩ = some (.int .i64 m) := cell_later hb1 (by simp [go_sem])
    have hz : w.heap.size < w1.heap.size := by have := hb1.size; simp at this; omega
    have hb0 := box_below w _ _ hb1
    clear hb1
    refine wp_loop_rounds 4 ?_
    repeat any_goals (rw [rounds_succ]; go_wp2_with (first | go_quiet (fail) | (go_at_call 97; refine (refFormat_any _ _ _).mono ?_; rintro e w2 ⟨rfl, hb2⟩; have d2 : w2.cell? ⟨w.heap.size, 0, none⟩ = some (.int .i64 c) := cell_later hb2 (by simp [go_sem, d0]); have hb3 : Below w.heap.size w w2 := (by first | exact (below_drewN hb0 _).trans (hb2.mono (B' := w.heap.size) (by simp; omega)) | exact hb0.trans (hb2.mono (B' := w.heap.size) (by omega))); clear hb2)))
    all_goals go_ret
    all_goals first | exact ⟨ret_b X.out.symm, below_drewN hb0 _⟩ | exact ⟨ret_b X.out.symm, below_drewN (below_drewN hb0 _) _⟩ | exact ⟨ret_b X.out.symm, hb3⟩
  · have X := Lib.hid (show Px.fitsV p c m = true by rw [Px.fitsV3_all h (by omega) (by omega) (by omega), hf, k]; rfl)
    go_enter Try.func69, Try.ntmps69
    go_wp2_with (go_at_call 70; refine (refUnpack3 p a b d h _).mono ?_; rintro e w1 ⟨g, cap, rfl, ⟨hg0, hg1, c0, c1, c2, f0, f1, f2⟩, hb1⟩)
    have d0 : w1.cell? ⟨w.heap.size, 0, none⟩ = some (.int .i64 c) := cell_later hb1 (by simp [go_sem])
    have d1 : w1.cell? ⟨w.heap.size, 1, none⟩ = some (.int .i64 m) := cell_later hb1 (by simp [go_sem])
    have hz : w.heap.size < w1.heap.size := by have := hb1.size; simp at this; omega
    have hb0 := box_below w _ _ hb1
    clear hb1
    refine wp_loop_rounds 4 ?_
    repeat any_goals (rw [rounds_succ]; go_wp2_with (first | go_quiet (fail) | (go_at_call 97; refine (refFormat_any _ _ _).mono ?_; rintro e w2 ⟨rfl, hb2⟩; have d2 : w2.cell? ⟨w.heap.size, 0, none⟩ = some (.int .i64 c) := cell_later hb2 (by simp [go_sem, d0]); have hb3 : Below w.heap.size w w2 := (by first | exact (below_drewN hb0 _).trans (hb2.mono (B' := w.heap.size) (by simp; omega)) | exact hb0.trans (hb2.mono (B' := w.heap.size) (by omega))); clear hb2)))
    all_goals go_ret
    all_goals first | exact ⟨ret_b X.out.symm, below_drewN hb0 _⟩ | exact ⟨ret_b X.out.symm, below_drewN (below_drewN hb0 _) _⟩ | exact ⟨ret_b X.out.symm, hb3⟩

theorem refFits1 (p c m a : Int) (h : Px.Is1 p a) (w : World) :
    Calls Try.prog 69 #[.int .u64 p, .agg #[.int .i64 c, .int .i64 m]] w fun e w' => e = .returned (.bool (Px.fitsV p c m)) ∧ Below w.heap.size w w' := by
  by_cases ha : m < a
  · have X := Lib.hid (Px.fitsV1_bad (c := c) h ha)
    go_enter Try.func69, Try.ntmps69
    go_wp2_with (go_at_call 70; refine (refUnpack1 p a h _).mono ?_; rintro e w1 ⟨g, cap, rfl, ⟨hg0, hg1, c0, f0⟩, hb1⟩)
    have d0 : w1.cell? ⟨w.heap.size, 0, none⟩ = some (.int .i64 c) := cell_later hb1 (by simp [go_sem])
    have d1 : w1.cell? ⟨w.heap.size, 1, none⟩ = some (.int .i64 m) := cell_later hb1 (by simp [go_sem])
    have hz : w.heap.size < w1.heap.size := by have := hb1.size; simp at this; omega
    have hb0 := box_below w _ _ hb1
    clear hb1
    refine wp_loop_rounds 2 ?_
    repeat any_goals (rw [rounds_succ]; go_wp2_with (first | go_quiet (fail) | (go_at_call 97; refine (refFormat_any _ _ _).mono ?_; rintro e w2 ⟨rfl, hb2⟩; have d2 : w2.cell? ⟨w.heap.size, 0, none⟩ = some (.int .i64 c) := cell_later hb2 (by simp [go_sem, d0]); have hb3 : Below w.heap.size w w2 := (by first | exact (below_drewN hb0 _).trans (hb2.mono (B' := w.heap.size) (by simp; omega)) | exact hb0.trans (hb2.mono (B' := w.heap.size) (by omega))); clear hb2)))
    all_goals go_ret
    all_goals first | exact ⟨ret_b X.out.symm, below_drewN hb0 _⟩ | exact ⟨ret_b X.out.symm, below_drewN (below_drewN hb0 _) _⟩ | exact ⟨ret_b X.out.symm, hb3⟩
  cases hf : Px.formatV c m
  · have X := Lib.hid (show Px.fitsV p c m = false by rw [Px.fitsV_bad hf])
    go_enter Try.func69, Try.ntmps69
    go_wp2_with (go_at_call 70; refine (refUnpack1 p a h _).mono ?_; rintro e w1 ⟨g, cap, rfl, ⟨hg0, hg1, c0, f0⟩, hb1⟩)
    have d0 : w1.cell? ⟨w.heap.size, 0, none⟩ = some (.int .i64 c) := cell_later hb1 (by simp [go_sem])
    have d1 : w1.cell? ⟨w.heap.size, 1, none⟩ = some (.int .i64 m) := cell_later hb1 (by simp [go_sem])
    have hz : w.heap.size < w1.heap.size := by have := hb1.size; simp at this; omega
    have hb0 := box_below w _ _ hb1
    clear hb1
    refine wp_loop_rounds 2 ?_
    repeat any_goals (rw [rounds_succ]; go_wp2_with (first | go_quiet (fail) | (go_at_call 97; refine (refFormat_any _ _ _).mono ?_; rintro e w2 ⟨rfl, hb2⟩; have d2 : w2.cell? ⟨w.heap.size, 0, none⟩ = some (.int .i64 c) := cell_later hb2 (by simp [go_sem, d0]); have hb3 : Below w.heap.size w w2 := (by first | exact (below_drewN hb0 _).trans (hb2.mono (B' := w.heap.size) (by simp; omega)) | exact hb0.trans (hb2.mono (B' := w.heap.size) (by omega))); clear hb2)))
    all_goals go_ret
    all_goals first | exact ⟨ret_b X.out.symm, below_drewN hb0 _⟩ | exact ⟨ret_b X.out.symm, below_drewN (below_drewN hb0 _) _⟩ | exact ⟨ret_b X.out.symm, hb3⟩
  cases k : ((1 : Int) == c)
  · have X := Lib.hid (show Px.fitsV p c m = false by rw [Px.fitsV1_all h (by omega), hf, k]; rfl)
    go_enter Try.func69, Try.ntmps69
    go_wp2_with (go_at_call 70; refine (refUnpack1 p a h _).mono ?_; rintro e w1 ⟨g, cap, rfl, ⟨hg0, hg1, c0, f0⟩, hb1⟩)
    have d0 : w1.cell? ⟨w.heap.size, 0, none⟩ = some (.int .i64 c) := cell_later hb1 (by simp [go_sem])
    have d1 : w1.cell? ⟨w.heap.size, 1, none⟩ = some (.int .i64 m) := cell_later hb1 (by simp [go_sem])
    have hz : w.heap.size < w1.heap.size := by have := hb1.size; simp at this; omega
    have hb0 := box_below w _ _ hb1
    clear hb1
    refine wp_loop_rounds 2 ?_
    repeat any_goals (rw [rounds_succ]; go_wp2_with (first | go_quiet (fail) | (go_at_call 97; refine (refFormat_any _ _ _).mono ?_; rintro e w2 ⟨rfl, hb2⟩; have d2 : w2.cell? ⟨w.heap.size, 0, none⟩ = some (.int .i64 c) := cell_later hb2 (by simp [go_sem, d0]); have hb3 : Below w.heap.size w w2 := (by first | exact (below_drewN hb0 _).trans (hb2.mono (B' := w.heap.size) (by simp; omega)) | exact hb0.trans (hb2.mono (B' := w.heap.size) (by omega))); clear hb2)))
    all_goals go_ret
    all_goals first | exact ⟨ret_b X.out.symm, below_drewN hb0 _⟩ | exact ⟨ret_b X.out.symm, below_drewN (below_drewN hb0 _) _⟩ | exact ⟨ret_b X.out.symm, hb3⟩
  · have X := Lib.hid (show Px.fitsV p c m = true by rw [Px.fitsV1_all h (by omega), hf, k]; rfl)
    go_enter Try.func69, Try.ntmps69
    go_wp2_with (go_at_call 70; refine (refUnpack1 p a h _).mono ?_; rintro e w1 ⟨g, cap, rfl, ⟨hg0, hg1, c0, f0⟩, hb1⟩)
    have d0 : w1.cell? ⟨w.heap.size, 0, none⟩ = some (.int .i64 c) := cell_later hb1 (by simp [go_sem])
    have d1 : w1.cell? ⟨w.heap.size, 1, none⟩ = some (.int .i64 m) := cell_later hb1 (by simp [go_sem])
    have hz : w.heap.size < w1.heap.size := by have := hb1.size; simp at this; omega
    have hb0 := box_below w _ _ hb1
    clear hb1
    refine wp_loop_rounds 2 ?_
    repeat any_goals (rw [rounds_succ]; go_wp2_with (first | go_quiet (fail) | (go_at_call 97; refine (refFormat_any _ _ _).mono ?_; rintro e w2 ⟨rfl, hb2⟩; have d2 : w2.cell? ⟨w.heap.size, 0, none⟩ = some (.int .i64 c) := cell_later hb2 (by simp [go_sem, d0]); have hb3 : Below w.heap.size w w2 := (by first | exact (below_drewN hb0 _).trans (hb2.mono (B' := w.heap.size) (by simp; omega)) | exact hb0.trans (hb2.mono (B' := w.heap.size) (by omega))); clear hb2)))
    all_goals go_ret
    all_goals first | exact ⟨ret_b X.out.symm, below_drewN hb0 _⟩ | exact ⟨ret_b X.out.symm, below_drewN (below_drewN hb0 _) _⟩ | exact ⟨ret_b X.out.symm, hb3⟩

theorem refFits0 (p c m : Int) (hU : Px.U p) (h : Px.Is0 p) (w : World) :
    Calls Try.prog 69 #[.int .u64 p, .agg #[.int .i64 c, .int .i64 m]] w fun e w' => e = .returned (.bool (Px.fitsV p c m)) ∧ Below w.heap.size w w' := by
  cases hf : Px.formatV c m
  · have X := Lib.hid (show Px.fitsV p c m = false by rw [Px.fitsV_bad hf])
    go_enter Try.func69, Try.ntmps69
    go_wp2_with (go_at_call 70; refine (refUnpack0 p hU h _).mono ?_; rintro e w1 ⟨ad, cap, rfl, hb1⟩)
    have d0 : w1.cell? ⟨w.heap.size, 0, none⟩ = some (.int .i64 c) := cell_later hb1 (by simp [go_sem])
    have d1 : w1.cell? ⟨w.heap.size, 1, none⟩ = some (.int .i64 m) := cell_later hb1 (by simp [go_sem])
    have hz : w.heap.size < w1.heap.size := by have := hb1.size; simp at this; omega
    have hb0 := box_below w _ _ hb1
    clear hb1
    refine wp_loop_rounds 1 ?_
    repeat any_goals (rw [rounds_succ]; go_wp2_with (first | go_quiet (fail) | (go_at_call 97; refine (refFormat_any _ _ _).mono ?_; rintro e w2 ⟨rfl, hb2⟩; have d2 : w2.cell? ⟨w.heap.size, 0, none⟩ = some (.int .i64 c) := cell_later hb2 (by simp [go_sem, d0]); have hb3 : Below w.heap.size w w2 := (by first | exact (below_drewN hb0 _).trans (hb2.mono (B' := w.heap.size) (by simp; omega)) | exact hb0.trans (hb2.mono (B' := w.heap.size) (by omega))); clear hb2)))
    all_goals go_ret
    all_goals first | exact ⟨ret_b X.out.symm, below_drewN hb0 _⟩ | exact ⟨ret_b X.out.symm, below_drewN (below_drewN hb0 _) _⟩ | exact ⟨ret_b X.out.symm, hb3⟩
  have k : ((0 : Int) == c) = false := by
    have := Px.formatC hf
    rw [beq_eq_false_iff_ne]; omega
  · have X := Lib.hid (Px.fitsV0 (c := c) (m := m) h)
    go_enter Try.func69, Try.ntmps69
    go_wp2_with (go_at_call 70; refine (refUnpack0 p hU h _).mono ?_; rintro e w1 ⟨ad, cap, rfl, hb1⟩)
    have d0 : w1.cell? ⟨w.heap.size, 0, none⟩ = some (.int .i64 c) := cell_later hb1 (by simp [go_sem])
    have d1 : w1.cell? ⟨w.heap.size, 1, none⟩ = some (.int .i64 m) := cell_later hb1 (by simp [go_sem])
    have hz : w.heap.size < w1.heap.size := by have := hb1.size; simp at this; omega
    have hb0 := box_below w _ _ hb1
    clear hb1
    refine wp_loop_rounds 1 ?_
    repeat any_goals (rw [rounds_succ]; go_wp2_with (first | go_quiet (fail) | (go_at_call 97; refine (refFormat_any _ _ _).mono ?_; rintro e w2 ⟨rfl, hb2⟩; have d2 : w2.cell? ⟨w.heap.size, 0, none⟩ = some (.int .i64 c) := cell_later hb2 (by simp [go_sem, d0]); have hb3 : Below w.heap.size w w2 := (by first | exact (below_drewN hb0 _).trans (hb2.mono (B' := w.heap.size) (by simp; omega)) | exact hb0.trans (hb2.mono (B' := w.heap.size) (by omega))); clear hb2)))
    all_goals go_ret
    all_goals first | exact ⟨ret_b X.out.symm, below_drewN hb0 _⟩ | exact ⟨ret_b X.out.symm, below_drewN (below_drewN hb0 _) _⟩ | exact ⟨ret_b X.out.symm, hb3⟩

theorem refFits_any (p c m : Int) (hU : Px.U p) (w : World) :
    Calls Try.prog 69 #[.int .u64 p, .agg #[.int .i64 c, .int .i64 m]] w fun e w' => e = .returned (.bool (Px.fitsV p c m)) ∧ Below w.heap.size w w' := by
  rcases Px.tri hU with ⟨a, b, d, h⟩ | ⟨a, h⟩ | h
  · exact refFits3 p c m a b d h w
  · exact refFits1 p c m a h w
  · exact refFits0 p c m hU h w
end Pq
end Go.Proofs.Ytflpocnbmpdhiaa

/- Plain facts on rasters of digits that are written: their bytes. No condition. -/
namespace Go.Proofs.Ytflpocnbmpdhiaa
open Go.RowKit
set_option linter.unusedVariables false
namespace Pl
/-- the first k samples, a blank behind each but the last one of all -/
def wTk (zs : List Int) : Nat → List Int
  | 0 => []
  | k + 1 => wTk zs k ++ Nu.decV (zs.getD k 0) ++ (if k + 1 < zs.length then [32] else [])
def wLn (G : Hd.H) (i : Nat) : Bool := decide (1 < G.kd) || ((i : Int) % G.w == G.w - 1) || ((i : Int) % G.w % 70 == 69)
/-- the first i pixels -/
def wAll (G : Hd.H) (l : List Int) : Nat → List Int
  | 0 => []
  | i + 1 => wAll G l i ++ wTk (Pq.Px.smp (l.getD i 0)) (Pq.Px.smp (l.getD i 0)).length ++ (if wLn G i = true then [10] else [])
theorem wTk_len {zs : List Int} (h : ∀ s ∈ zs, Nu.I s) : ∀ k, k ≤ zs.length → (wTk zs k).length ≤ 67 * k
  | 0, _ => by simp [wTk]
  | k + 1, hk => by
    have h1 := wTk_len h k (by omega)
    have h2 := Nu.decV_len (h (zs.getD k 0) (getD_mem (by omega)))
    simp only [wTk, List.length_append]
    split
    · rw [List.length_singleton]; omega
    · rw [List.length_nil]; omega
theorem goodU {G : Hd.H} {l : List Int} (hl : Fits G l) : ∀ p ∈ l, Pq.Px.U p := fun p hp => Pq.goodU (hl p hp)
theorem wAll_len {G : Hd.H} {l : List Int} (hl : ∀ p ∈ l, Pq.Px.U p) : ∀ i, i ≤ l.length → (wAll G l i).length ≤ 202 * i
  | 0, _ => by simp [wAll]
  | i + 1, hi => by
    have h1 := wAll_len (G := G) hl i (by omega)
    have hU := hl (l.getD i 0) (getD_mem (by omega))
    have h2 := wTk_len (smp_I hU) _ (Nat.le_refl _)
    have h3 := (smp_in hU).1
    simp only [wAll, List.length_append]
    split
    · rw [List.length_singleton]; omega
    · rw [List.length_nil]; omega
theorem fits_true {p c m : Int} (h : Pq.GoodP p c m) (m1 : 1 ≤ m) (m2 : m ≤ 65535) : Pq.Px.fitsV p c m = true := by
  rcases h with ⟨rfl, x, y, z, h3, hx, hy, hz⟩ | ⟨rfl, x, h1, hx⟩
  · rw [Pq.Px.fitsV3_all h3 hx hy hz]
    simp [Pq.Px.formatV, m1, m2]
  · rw [Pq.Px.fitsV1_all h1 hx]
    simp [Pq.Px.formatV, m1, m2]
/-- do all pixels fit -/
def fitAll (G : Hd.H) (l : List Int) : Bool := l.all fun p => Pq.Px.fitsV p (Hj.chan G) G.m
/-- a raster's text, or none -/
def wV (G : Hd.H) (l : List Int) : Value := if fitAll G l = true then .tuple #[.string (strOfNums (wAll G l l.length)), .int .i64 0] else .tuple #[.string ⟨#[]⟩, .int .i64 1]
theorem fitAll_no {G : Hd.H} {l : List Int} {k : Nat} (hk : k < l.length) (h : Pq.Px.fitsV (l.getD k 0) (Hj.chan G) G.m = false) : fitAll G l = false := by
  unfold fitAll
  rw [List.all_eq_false]
  exact ⟨_, getD_mem hk, by rw [h]; decide⟩
theorem fitAll_yes {G : Hd.H} {l : List Int} (h : ∀ j, j < l.length → Pq.Px.fitsV (l.getD j 0) (Hj.chan G) G.m = true) : fitAll G l = true := by
  unfold fitAll
  rw [List.all_eq_true]
  intro p hp
  obtain ⟨j, hj, rfl⟩ := List.mem_iff_getElem.1 hp
  have := h j hj
  rwa [List.getD_eq_getElem?_getD, List.getElem?_eq_getElem hj] at this
theorem wAll_succ (G : Hd.H) (l : List Int) (i : Nat) : wAll G l (i + 1) = wAll G l i ++ wTk (Pq.Px.smp (l.getD i 0)) (Pq.Px.smp (l.getD i 0)).length ++ (if wLn G i = true then [10] else []) := rfl
theorem wTk_succ (zs : List Int) (k : Nat) : wTk zs (k + 1) = wTk zs k ++ Nu.decV (zs.getD k 0) ++ (if k + 1 < zs.length then [32] else []) := rfl
theorem ln_yes1 {G : Hd.H} {i : Nat} (h : ¬ G.kd ≤ 1) : wLn G i = true := by
  have : 1 < G.kd := by omega
  simp [wLn, this]
theorem ln_yes2 {G : Hd.H} {i gw : Nat} (hg : G.w = (gw : Int)) (h : (i : Int) % (gw : Int) = (gw : Int) - 1) : wLn G i = true := by
  simp [wLn, hg, h]
theorem ln_yes3 {G : Hd.H} {i gw : Nat} (hg : G.w = (gw : Int)) (h : (1 < G.kd ∨ ((i : Int) % (gw : Int) == (gw : Int) - 1) = true) ∨ ((i : Int) % (gw : Int) % 70 == 69) = true) : wLn G i = true := by
  unfold wLn; rw [hg]
  rcases h with (h | h) | h
  · simp [h]
  · rw [h]; simp
  · rw [h]; simp
theorem ln_no {G : Hd.H} {i gw : Nat} (hg : G.w = (gw : Int)) (h : (G.kd ≤ 1 ∧ ((i : Int) % (gw : Int) == (gw : Int) - 1) = false) ∧ ((i : Int) % (gw : Int) % 70 == 69) = false) : wLn G i = false := by
  have h1 : ¬ 1 < G.kd := by omega
  unfold wLn; rw [hg, h.1.2, h.2]; simp [h1]
theorem str32 : (⟨#[32]⟩ : ByteArray) = strOfNums [32] := rfl
theorem str10 : (⟨#[10]⟩ : ByteArray) = strOfNums [10] := rfl
end Pl
end Go.Proofs.Ytflpocnbmpdhiaa

/- Pixels of a head of a raster of bytes, made of any numbers, by the document, over any memory. Condition: the head may be, there are not too many. -/
namespace Go.Proofs.Ytflpocnbmpdhiaa
open Go.RowKit
set_option linter.unusedVariables false
set_option maxRecDepth 100000 in
set_option maxHeartbeats 4000000 in
theorem rwPixels_zero (a : Option Addr) (ln cap : Nat) (z : List Int) (G : Hd.H) (hm : Rw.May G) (N : Nat) (hN : G.w * G.h = (N : Int)) (hN1 : N ≤ 100000) (w : World) (hz : ln = 0) (hs : SlK .i64 w a ln z) (hI : ∀ x ∈ z, Nu.I x) :
    Calls Try.prog 38 #[.slice a ln cap, agH G] w (PxR N G w) := by
  have hmm := hm.m
  have hF := refFormat_any G hm.1
  have hcc := Hj.chan_at G
  unfold Hj.fm agH at hF
  obtain ⟨i0, hi, hz0, hz1, hz2⟩ : ∃ i, Try.prog.info? 3 = some i ∧ i.zero = some (.int .i64 0) ∧ i.size = 1 ∧ i.bytes = 8 := (by have h := Try.info_in8; cases hh : Try.prog.info? 3 with | none => rw [hh] at h; cases h | some i => rw [hh] at h; simp at h; exact ⟨i, rfl, h.1, h.2.1, h.2.2⟩)
  obtain ⟨p0, pi, pz0, pz1, pz2⟩ : ∃ i, Try.prog.info? 71 = some i ∧ i.zero = some (.int .u64 0) ∧ i.size = 1 ∧ i.bytes = 8 := (by have h := Try.info_px8; cases hh : Try.prog.info? 71 with | none => rw [hh] at h; cases h | some i => rw [hh] at h; simp at h; exact ⟨i, rfl, h.1, h.2.1, h.2.2⟩)
  have hte : 3 ≠ 71 := by decide
  obtain ⟨c, hc⟩ : ∃ c : Nat, Hj.chan G = (c : Int) := ⟨(Hj.chan G).toNat, by omega⟩
  have hc13 : c = 1 ∨ c = 3 := by omega
  have HGP : Hid (∀ l, Pq.GoodP (Pq.Px.goodV l c G.m) c G.m) := Lib.hid fun l => Pq.good_is l (by omega) (by omega) (by omega)
  have HGS : Hid (∀ (a : Option Addr) (len cap : Nat) (l : List Int) (W : World), len ≤ 9223372036854775807 → (∀ x ∈ l, Nu.I x) → Pq.Sl W a len l → Calls Try.prog 64 #[.slice a len cap, .agg #[.int .i64 c, .int .i64 G.m]] W fun e w' => e = .returned (.int .u64 (Pq.Px.goodV l c G.m)) ∧ Below W.heap.size W w') := Lib.hid fun a len cap l W h1 h2 h3 => Pq.good_sl a len cap l c G.m h1 (fun x hx => h2 x hx) (by omega) (by omega) (by omega) W h3
  rw [hc] at hF
  have HF := Lib.hid hF
  have HS := Lib.hid hs
  subst hz
  have HI := Lib.hid hI
  have HC := Lib.hid hc
  have HN := Lib.hid hN
  have gN : wrap64 (G.w * G.h) = (N : Int) := by rw [hN, IntWalk.wrap64_in] <;> omega
  clear hF hs hI hc hN hmm hm hcc
  unfold agH
  go_enter Try.func38, Try.ntmps38
  go_wp2_with fail
  refine (HF.out _).mono ?_
  rintro e w1 ⟨rfl, hb⟩
  have HB1 := Lib.hid (((Below.refl _ w).alloc (Nat.le_refl _) _).trans (hb.mono (by simp)))
  have HK1 := Lib.hid ((Hb.new w 25 G).later hb)
  clear hb
  go_upto_region 3 with fail
  generalize hW : w1.alloc (.cells #[.int .i64 c, .int .i64 G.m] 108) = w3
  have hx : Below w1.heap.size w1 w3 := by rw [← hW]; exact box1' _ _
  have l0 : w3.cell? ⟨w1.heap.size, 0, none⟩ = some (.int .i64 c) := by rw [← hW]; simp [go_sem]
  have l1 : w3.cell? ⟨w1.heap.size, 1, none⟩ = some (.int .i64 G.m) := by rw [← hW]; simp [go_sem]
  have HB3 := Lib.hid (HB1.out.trans (hx.mono HB1.out.size))
  have HK3 := Lib.hid (HK1.out.later hx)
  have HL0 := Lib.hid l0
  have HL1 := Lib.hid l1
  clear hW hx l0 l1 HB1 HK1
  go_wp2_with fail
  go_loopw [6, 7] (fun u6 u7 wr => PxOut w3 N G u6 u7 wr) (fun _ u7 _ => N - (intOf u7).toNat)
  case atStart => exact ⟨0, [], _, Nat.zero_le _, rfl, rfl, World.ownsRow_nil _ _ _ _, rfl, (fun p hp => by cases hp), .refl _ _⟩
  case round =>
    obtain ⟨i, gs, v, hi1, rfl, rfl, hrow, hgl, hfit, hB⟩ := hrel
    have HROW := Lib.hid hrow
    have HFIT := Lib.hid hfit
    have HGL := Lib.hid hgl
    have HB := Lib.hid hB
    have hK := HK3.out.later hB
    obtain ⟨k0, k1, k2, k3⟩ := hK.cells
    clear hrow hfit hgl hB hK
    by_cases hlt : i < N
    · have hP : (i : Int) * (c : Int) = ((i * c : Nat) : Int) := by simp
      obtain ⟨P, hPP⟩ : ∃ P : Nat, i * c = P := ⟨_, rfl⟩
      rw [hPP] at hP
      have hP1 : P ≤ 300000 := by rw [← hPP]; rcases hc13 with h | h <;> subst h <;> omega
      have gP : wrap64 ((i : Int) * (c : Int)) = (P : Int) := by rw [hP, IntWalk.wrap64_in] <;> omega
      have HP := Lib.hid hP
      clear hP hPP
      go_wp2_with fail
      clear k0 k1 k2 k3 gN
      go_loopw [8, 9, 10] (fun u8 u9 u10 wr => PxIn w3 c i gs v u8 u9 wr) (fun _ u9 _ _ => c - (intOf u9).toNat)
      case atStart => exact ⟨0, [], _, Nat.zero_le _, rfl, rfl, World.ownsRow_nil _ _ _ _, rfl, (fun x hx => by cases hx), HROW.out, HB.out⟩
      case round =>
        obtain ⟨k, zs, u, hk1, rfl, rfl, hro, hzl, hzI, hrp, hC⟩ := hrel
        have HRO := Lib.hid hro
        have HZI := Lib.hid hzI
        have HZL := Lib.hid hzl
        have HRP := Lib.hid hrp
        have HC2 := Lib.hid hC
        have l0 := cell_later hC HL0.out
        have l1 := cell_later hC HL1.out
        clear hro hzI hzl hrp hC HROW HB
        by_cases hkt : k < c
        · have hck : c ≤ 3 := by omega
          go_wp2_with (at_builtin; refine wpList_app rfl _ _ 69 rfl w3.heap.size 3 i0 .i64 8 Try.underlying69 hi hz0 hz1 hz2 u k (ints zs) rfl (HRO.out.alloc _) (some ⟨_, 0, none⟩) 1 1 [0] rfl (one_slk _ _ _ _) (by unfold maxLen; omega) (by omega) (by have := HC2.out.size; simp; omega) ?_; intro v2 w5 hown hgrow hat; have HO5 := Lib.hid hown; have HR5 := Lib.hid ((HRP.out.alloc _).kept hgrow (apart_rows (Ne.symm hte) HRP.out HRO.out)); have HC5 := Lib.hid ((HC2.out.alloc HC2.out.size _).grown hgrow (by have := HC2.out.size; simp; omega) (fun j ej => (HRO.out.lt j ej).1)); clear hown hgrow hat)
          go_roundw
          case rel => exact ⟨k + 1, zs ++ [0], v2, by omega, by go_num, rfl, by have h := HO5.out; unfold ints; rw [List.map_append]; exact h, by rw [List.length_append, HZL.out]; rfl, (fun x hx => by
            rcases List.mem_append.1 hx with h | h
            · exact HZI.out x h
            · rw [List.mem_singleton.1 h]; unfold Nu.I; omega), HR5.out, HC5.out⟩
          case measure => simp [intOf]; omega
        · have hkc : k = c := by omega
          subst hkc
          obtain ⟨a', c', rfl, hsl⟩ := sl_of_row (z := 0) rfl HRO.out HZL.out
          have HSL := Lib.hid hsl
          obtain ⟨g, hg⟩ : ∃ g, Pq.Px.goodV zs k G.m = g := ⟨_, rfl⟩
          have HGG := Lib.hid hg
          clear hsl hg
          have hk9 : k ≤ 3 := by omega
          go_wp2_with (first
            | (at_builtin; refine wpList_app rfl _ _ 52 rfl w3.heap.size 71 p0 .u64 8 Try.underlying52 pi pz0 pz1 pz2 v i (pixs gs) rfl (HR9.out.alloc _) (some ⟨_, 0, none⟩) 1 1 [g] rfl (one_slk _ _ _ _) (by unfold maxLen; omega) (by omega) (by have := HC9.out.size; simp; omega) ?_; intro v2 w5 hown hgrow hat; have HO5 := Lib.hid hown; have HC5 := Lib.hid ((HC9.out.alloc HC9.out.size _).grown hgrow (by have := HC9.out.size; simp; omega) (fun j ej => (HR9.out.lt j ej).1)); clear hown hgrow hat)
            | (go_at_call 64; refine (HGS.out a' k c' zs _ (by omega) HZI.out HSL.out).mono ?_; rw [HGG.out]; rintro e w9 ⟨rfl, hb⟩; have HR9 := Lib.hid (below_row HRP.out hb); have HC9 := Lib.hid (HC2.out.trans (hb.mono HC2.out.size)); clear hb))
          go_roundw
          case rel => exact ⟨i + 1, gs ++ [g], v2, by omega, by go_num, rfl, by have h := HO5.out; unfold pixs; rw [List.map_append]; exact h, by rw [List.length_append, HGL.out]; rfl, (fun x hx => by
            rcases List.mem_append.1 hx with h | h
            · exact HFIT.out x h
            · rw [List.mem_singleton.1 h, ← HGG.out, HC.out]; exact HGP.out zs), HC5.out⟩
          case measure => simp [intOf]; omega
    · have hiN : i = N := by omega
      obtain ⟨ad, cp, rfl, _⟩ : ∃ ad cp, v = .slice ad i cp ∧ True := by
        rcases HROW.out.2 with ⟨rfl, rfl⟩ | ⟨g, cap, cur, rfl, _⟩
        · exact ⟨none, 0, rfl, trivial⟩
        · exact ⟨_, _, rfl, trivial⟩
      subst hiN
      go_wp2
      go_ret
      exact ⟨ad, cp, gs, rfl, HGL.out, HFIT.out, ownsRow_base HROW.out (HB3.out.size), HB3.out.trans (HB.out.mono HB3.out.size)⟩
end Go.Proofs.Ytflpocnbmpdhiaa

/- Plain facts on rasters of digits that are read: samples, with blanks behind. No condition. -/
namespace Go.Proofs.Ytflpocnbmpdhiaa
open Go.RowKit
set_option linter.unusedVariables false
namespace Pl
def putS (s : S) (t : List Int) : S := t.foldl (fun s c => (put s c).1) s
/-- told t it is s', and told these pixels -/
def Run (s : S) (t : List Int) (s' : S) (out : List Int) : Prop :=
  putS s t = s' ∧ ∀ (i : Nat) (acc cs : List Int), readF s i acc (t ++ cs) = readF s' (i + t.length) (acc ++ out) cs
theorem Run.none (s : S) : Run s [] s [] := ⟨rfl, fun i acc cs => by simp⟩
theorem Run.one {s : S} {c : Int} {q : S × List Int} (hq : put s c = q) (h : q.1.last = 0) : Run s [c] q.1 q.2 :=
  ⟨by simp [putS, hq], fun i acc cs => by rw [List.singleton_append, readF_more hq h]; rfl⟩
theorem Run.app {s s' s2 : S} {t t' o o' : List Int} (h1 : Run s t s' o) (h2 : Run s' t' s2 o') : Run s (t ++ t') s2 (o ++ o') := by
  refine ⟨?_, fun i acc cs => ?_⟩
  · have e1 := h1.1
    have e2 := h2.1
    unfold putS at *
    rw [List.foldl_append, e1, e2]
  · rw [List.append_assoc, h1.2, h2.2, List.append_assoc, List.length_append, Nat.add_assoc]
/-- a sample may come -/
def Rdy (s : S) : Prop := s.last = 0 ∧ s.d = false ∧ s.n = 0
theorem rdy_sample {s : S} {z : Int} (h : (sample s z).1.last = 0) : Rdy (sample s z).1 := by
  unfold sample at *
  split
  · exact ⟨rfl, rfl, rfl⟩
  · rename_i h1
    rw [if_neg h1] at h
    split
    · exact ⟨rfl, rfl, rfl⟩
    · rename_i h2
      rw [if_neg h2] at h
      exact ⟨h, rfl, rfl⟩
theorem put_blank {s : S} {c : Int} (hr : Rdy s) (hc : Tk.blank c = true) : put s c = (s, []) := by
  unfold put
  rw [if_neg (by simp [hr.1]), if_pos hc, if_neg (by simp [hr.2.1])]
theorem run_blank {s : S} {c : Int} (hr : Rdy s) (hc : Tk.blank c = true) : Run s [c] s [] := Run.one (put_blank hr hc) hr.1
theorem run_blanks {s : S} (hr : Rdy s) : ∀ es : List Int, (∀ e ∈ es, Tk.blank e = true) → Run s es s []
  | [], _ => Run.none s
  | e :: es, h => by
    have h1 := (run_blank hr (h e (List.mem_cons_self ..))).app (run_blanks hr es fun x hx => h x (List.mem_cons_of_mem _ hx))
    simpa using h1
theorem digit_not {c : Int} (h : 48 ≤ c ∧ c ≤ 57) : Tk.blank c = false := by unfold Tk.blank; simp; omega
theorem run_digits {v : Int} : ∀ (xs : List Int) (s : S), s.last = 0 → ¬ s.h.kd = 1 → xs ≠ [] → Nu.parseF s.h.m s.n xs = (v, 0) → Run s xs (digit s v) []
  | [], s, _, _, h, _ => absurd rfl h
  | c :: cs, s, h0, hk, _, hp => by
    unfold Nu.parseF at hp
    by_cases he : (Nu.stepV s.n c s.h.m).2 = 0
    · rw [if_pos he] at hp
      have hd := Tk.step_digit he
      have hq : put s c = (digit s (Nu.stepV s.n c s.h.m).1, []) := by
        unfold put
        rw [if_neg (by simp [h0]), if_neg (by rw [digit_not hd]; simp), if_neg hk, if_pos he]
      have h1 := Run.one hq rfl
      cases cs with
      | nil =>
        unfold Nu.parseF at hp
        have : (Nu.stepV s.n c s.h.m).1 = v := by injection hp
        rw [this] at h1
        exact h1
      | cons c2 cs =>
        have h2 := run_digits (c2 :: cs) (digit s (Nu.stepV s.n c s.h.m).1) rfl hk (by simp) hp
        exact h1.app h2
    · rw [if_neg he] at hp
      injection hp with e1 e2
      exact absurd e2 he
/-- a sample's bytes, with the blank that ends it -/
def It (kd m z : Int) (bs : List Int) : Prop := 0 ≤ z ∧ z ≤ m ∧ ((kd = 1 ∧ z ≤ 1 ∧ bs = [48 + z]) ∨ (¬ kd = 1 ∧ ∃ c, Tk.blank c = true ∧ bs = Nu.decV z ++ [c]))
/-- what a sample does, told -/
theorem it_last {s : S} {z : Int} {bs : List Int} (hr : Rdy s) (hi : It s.h.kd s.h.m z bs) :
    ∃ s1 pre c, bs = pre ++ [c] ∧ Run s pre s1 [] ∧ put s1 c = sample s z := by
  obtain ⟨z0, z1, ⟨hk, hz, rfl⟩ | ⟨hk, c, hc, rfl⟩⟩ := hi
  · refine ⟨s, [], 48 + z, rfl, Run.none s, ?_⟩
    unfold put
    rw [if_neg (by simp [hr.1]), if_neg (by rw [digit_not (by omega)]; simp), if_pos hk, if_pos (by omega), show 48 + z - 48 = z by omega]
  · have hp := Nu.parse_dig s.h.m (by omega) z z0
    rw [if_pos z1, ← Nu.decV_up z0] at hp
    have hp : Nu.parseF s.h.m s.n (Nu.decV z) = (z, 0) := by rw [hr.2.2]; exact hp
    refine ⟨digit s z, Nu.decV z, c, rfl, run_digits _ s hr.1 hk (Nu.decV_ne z0) hp, ?_⟩
    show put (digit s z) c = sample s z
    unfold put
    rw [if_neg (by simp [digit]), if_pos hc, if_pos (show (digit s z).d = true from rfl)]
    rfl
theorem it_more {s : S} {z : Int} {bs : List Int} (hr : Rdy s) (hi : It s.h.kd s.h.m z bs) (h : (sample s z).1.last = 0) : Run s bs (sample s z).1 (sample s z).2 := by
  obtain ⟨s1, pre, c, rfl, h1, h2⟩ := it_last hr hi
  have := h1.app (Run.one h2 h)
  simpa using this
theorem it_over {s : S} {z : Int} {bs : List Int} (hr : Rdy s) (hi : It s.h.kd s.h.m z bs) (h : (sample s z).1.last = 1) (i : Nat) (acc cs : List Int) : readF s i acc (bs ++ cs) = (acc ++ (sample s z).2, ((i + bs.length : Nat) : Int), 0) := by
  obtain ⟨s1, pre, c, rfl, h1, h2⟩ := it_last hr hi
  rw [List.append_assoc, h1.2, List.singleton_append, readF_over h2 h]
  simp; omega
/-- samples, each with at most b blanks more behind -/
def Sq (kd m : Int) (b : Nat) : List Int → List Int → Prop
  | [], t => t = []
  | z :: zs, t => ∃ bs es t', t = bs ++ es ++ t' ∧ It kd m z bs ∧ (∀ e ∈ es, Tk.blank e = true) ∧ es.length ≤ b ∧ Sq kd m b zs t'
theorem Sq.app {kd m : Int} {b : Nat} : ∀ {zs ys t u : List Int}, Sq kd m b zs t → Sq kd m b ys u → Sq kd m b (zs ++ ys) (t ++ u)
  | [], ys, t, u, h, k => by unfold Sq at h; subst h; simpa using k
  | z :: zs, ys, t, u, h, k => by
    obtain ⟨bs, es, t', rfl, h1, h2, h3, h4⟩ := h
    exact ⟨bs, es, t' ++ u, by simp, h1, h2, h3, h4.app k⟩
def tell (s : S) : List Int → S × List Int
  | [] => (s, [])
  | z :: zs => ((tell (sample s z).1 zs).1, (sample s z).2 ++ (tell (sample s z).1 zs).2)
/-- it goes on behind each -/
def Live (s : S) : List Int → Prop
  | [] => True
  | z :: zs => (sample s z).1.last = 0 ∧ Live (sample s z).1 zs
theorem tell_app (s : S) : ∀ (zs ys : List Int), tell s (zs ++ ys) = ((tell (tell s zs).1 ys).1, (tell s zs).2 ++ (tell (tell s zs).1 ys).2)
  | [], ys => by simp [tell]
  | z :: zs, ys => by
    show ((tell (sample s z).1 (zs ++ ys)).1, (sample s z).2 ++ (tell (sample s z).1 (zs ++ ys)).2) = ((tell (tell (sample s z).1 zs).1 ys).1, (sample s z).2 ++ (tell (sample s z).1 zs).2 ++ (tell (tell (sample s z).1 zs).1 ys).2)
    rw [tell_app (sample s z).1 zs ys, List.append_assoc]
theorem live_app (s : S) : ∀ (zs ys : List Int), Live s zs → Live (tell s zs).1 ys → Live s (zs ++ ys)
  | [], ys, _, k => k
  | z :: zs, ys, h, k => ⟨h.1, live_app (sample s z).1 zs ys h.2 k⟩
theorem sq_run {b : Nat} : ∀ (zs t : List Int) (s : S), Rdy s → Sq s.h.kd s.h.m b zs t → Live s zs → Run s t (tell s zs).1 (tell s zs).2 ∧ Rdy (tell s zs).1 ∧ (tell s zs).1.h = s.h
  | [], t, s, hr, hq, _ => by unfold Sq at hq; subst hq; exact ⟨Run.none s, hr, rfl⟩
  | z :: zs, t, s, hr, hq, hl => by
    obtain ⟨bs, es, t', rfl, h1, h2, h3, h4⟩ := hq
    have hr2 := rdy_sample hl.1
    have hh := sample_h s z
    have ih := sq_run zs t' (sample s z).1 hr2 (by rw [hh]; exact h4) hl.2
    have := ((it_more hr h1 hl.1).app (run_blanks hr2 es h2)).app ih.1
    refine ⟨?_, ih.2.1, ih.2.2.trans hh⟩
    simpa [tell] using this
theorem sq_over {b : Nat} {zs t : List Int} {z : Int} {s : S} (hr : Rdy s) (hq : Sq s.h.kd s.h.m b (zs ++ [z]) t) (hl : Live s zs) (h1 : (sample (tell s zs).1 z).1.last = 1) (i : Nat) (acc cs : List Int) :
    ∃ n : Nat, readF s i acc (t ++ cs) = (acc ++ (tell s (zs ++ [z])).2, (n : Int), 0) ∧ n ≤ i + t.length ∧ i + t.length ≤ n + b := by
  obtain ⟨t1, t2, rfl, q1, q2⟩ : ∃ t1 t2, t = t1 ++ t2 ∧ Sq s.h.kd s.h.m b zs t1 ∧ Sq s.h.kd s.h.m b [z] t2 := by
    clear hl h1 hr
    generalize s.h.kd = kd at hq
    generalize s.h.m = m at hq
    induction zs generalizing t with
    | nil => exact ⟨[], t, rfl, rfl, hq⟩
    | cons y zs ih =>
      obtain ⟨bs, es, t', rfl, k1, k2, k3, k4⟩ := hq
      obtain ⟨t1, t2, rfl, q1, q2⟩ := ih k4
      exact ⟨bs ++ es ++ t1, t2, by simp, ⟨bs, es, t1, rfl, k1, k2, k3, q1⟩, q2⟩
  obtain ⟨r1, r2, r3⟩ := sq_run zs t1 s hr q1 hl
  obtain ⟨bs, es, t', rfl, k1, k2, k3, k4⟩ := q2
  unfold Sq at k4
  subst k4
  rw [← r3] at k1
  refine ⟨i + t1.length + bs.length, ?_, by simp; omega, by simp; omega⟩
  rw [show t1 ++ (bs ++ es ++ []) ++ cs = t1 ++ (bs ++ (es ++ cs)) by simp, r1.2, it_over r2 k1 h1, tell_app]
  simp [tell]
end Pl
end Go.Proofs.Ytflpocnbmpdhiaa

/- Plain facts on rasters of digits: what is written is read as it was, with blanks between, and is too short where it is cut off. No condition. -/
namespace Go.Proofs.Ytflpocnbmpdhiaa
open Go.RowKit
set_option linter.unusedVariables false
namespace Pl
theorem chan13 {G : Hd.H} (hm : May G) : (G.kd = 3 ∧ Hj.chan G = 3) ∨ (G.kd ≠ 3 ∧ Hj.chan G = 1) := by
  have := hm.m
  unfold Hj.chan
  by_cases h : G.kd = 3
  · exact .inl ⟨h, if_pos (.inl h)⟩
  · exact .inr ⟨h, if_neg (by omega)⟩
/-- one pixel more -/
theorem pix_tell {s : S} {p : Int} (hm : May s.h) (hr : Rdy s) (ho : s.one = []) (hp : Pq.GoodP p (Hj.chan s.h) s.h.m) :
    ∃ ys y, Pq.Px.smp p = ys ++ [y] ∧ Live s ys ∧ (tell s ys).2 = [] ∧
      sample (tell s ys).1 y = if (s.row.length : Int) + 1 < s.h.w then (⟨s.h, 0, false, [], s.row ++ [p], s.rows, 0, 0⟩, []) else (⟨s.h, 0, false, [], [], s.rows + 1, if s.rows + 1 = s.h.h then 1 else 0, 0⟩, s.row ++ [p]) := by
  have hmm := hm.m
  rcases hp with ⟨hc, x, y, z, h3, hx, hy, hz⟩ | ⟨hc, x, h1, hx⟩
  · obtain ⟨e0, a1, a2, a3, a4, a5, a6⟩ := id h3
    refine ⟨[x, y], z, Pq.Px.smp3 h3, ?_, ?_, ?_⟩
    · refine ⟨?_, ?_, trivial⟩
      · unfold sample; rw [if_pos (by rw [ho, hc]; decide)]; rfl
      · have e1 : sample s x = (more s x, []) := by unfold sample; rw [if_pos (by rw [ho, hc]; decide)]
        rw [e1]
        unfold sample; rw [if_pos (by show (((s.one ++ [x]).length : Nat) : Int) + 1 < Hj.chan s.h; rw [ho, hc]; simp)]; rfl
    · have e1 : sample s x = (more s x, []) := by unfold sample; rw [if_pos (by rw [ho, hc]; decide)]
      have e2 : sample (more s x) y = (more (more s x) y, []) := by unfold sample; rw [if_pos (by show (((s.one ++ [x]).length : Nat) : Int) + 1 < Hj.chan s.h; rw [ho, hc]; simp)]
      simp [tell, e1, e2]
    · have e1 : sample s x = (more s x, []) := by unfold sample; rw [if_pos (by rw [ho, hc]; decide)]
      have e2 : sample (more s x) y = (more (more s x) y, []) := by unfold sample; rw [if_pos (by show (((s.one ++ [x]).length : Nat) : Int) + 1 < Hj.chan s.h; rw [ho, hc]; simp)]
      have e3 : (tell s [x, y]).1 = more (more s x) y := by simp [tell, e1, e2]
      have e4 : pix (more (more s x) y) z = p := by
        show (Pq.Px.packV (s.one ++ [x] ++ [y] ++ [z])).1 = p
        rw [ho]
        show (Pq.Px.packV [x, y, z]).1 = p
        rw [Pq.Px.packV3 a1 a2 a3 a4 a5 a6, e0]
      rw [e3]
      unfold sample
      rw [if_neg (by show ¬ (((s.one ++ [x] ++ [y]).length : Nat) : Int) + 1 < Hj.chan s.h; rw [ho, hc]; simp)]
      show (if (s.row.length : Int) + 1 < s.h.w then _ else _) = _
      split
      · unfold pixel; rw [e4]; rfl
      · unfold line; rw [e4]; rfl
  · obtain ⟨e0, a1, a2⟩ := id h1
    refine ⟨[], x, Pq.Px.smp1 h1, trivial, rfl, ?_⟩
    have e4 : pix s x = p := by
      unfold pix
      rw [ho]
      show (Pq.Px.packV [x]).1 = p
      rw [Pq.Px.packV1 a1 a2, e0]
    show sample s x = _
    unfold sample
    rw [if_neg (by rw [ho, hc]; decide)]
    split
    · unfold pixel; rw [e4]
    · unfold line; rw [e4]
theorem kd1_m {G : Hd.H} (hm : May G) (h : G.kd = 1) : G.m = 1 := by
  have h1 := hm.1
  unfold Hd.May at h1
  obtain ⟨-, -, -, -, h9⟩ := h1
  exact h9 (by unfold Hd.bits; simp [h])
/-- a pixel's text -/
theorem sq_pix {G : Hd.H} {p : Int} {i : Nat} (hm : May G) (hp : Pq.GoodP p (Hj.chan G) G.m) : Sq G.kd G.m 1 (Pq.Px.smp p) (wTk (Pq.Px.smp p) (Pq.Px.smp p).length ++ if wLn G i = true then [10] else []) := by
  have hmm := hm.m
  have b10 : Tk.blank 10 = true := by decide
  have b32 : Tk.blank 32 = true := by decide
  have hb : ∀ x : List Int, x = [10] ∨ x = [] → (∀ e ∈ x, Tk.blank e = true) ∧ x.length ≤ 1 := by
    rintro x (rfl | rfl)
    · exact ⟨fun e he => by rw [List.mem_singleton.1 he]; exact b10, Nat.le_refl _⟩
    · exact ⟨fun e he => (by cases he), Nat.zero_le _⟩
  have hk := chan13 hm
  rcases hp with ⟨hc, x, y, z, h3, hx, hy, hz⟩ | ⟨hc, x, h1, hx⟩
  · obtain ⟨e0, a1, a2, a3, a4, a5, a6⟩ := id h3
    have hk3 : G.kd = 3 := by omega
    have hw : wLn G i = true := by simp [wLn, hk3]
    rw [Pq.Px.smp3 h3, hw, if_pos rfl]
    have hn : ¬ G.kd = 1 := by omega
    refine ⟨Nu.decV x ++ [32], [], Nu.decV y ++ [32] ++ (Nu.decV z ++ [10]), ?_, ⟨a1, hx, .inr ⟨hn, 32, b32, rfl⟩⟩, (fun e he => by cases he), Nat.zero_le _, ?_⟩
    · simp [wTk]
    · refine ⟨Nu.decV y ++ [32], [], Nu.decV z ++ [10], by simp, ⟨a3, hy, .inr ⟨hn, 32, b32, rfl⟩⟩, (fun e he => by cases he), Nat.zero_le _, ?_⟩
      exact ⟨Nu.decV z ++ [10], [], [], by simp, ⟨a5, hz, .inr ⟨hn, 10, b10, rfl⟩⟩, (fun e he => by cases he), Nat.zero_le _, rfl⟩
  · obtain ⟨e0, a1, a2⟩ := id h1
    rw [Pq.Px.smp1 h1]
    have hT : wTk [x] ([x] : List Int).length = Nu.decV x := by simp [wTk]
    rw [hT]
    by_cases h : G.kd = 1
    · have hm1 := kd1_m hm h
      refine ⟨[48 + x], if wLn G i = true then [10] else [], [], ?_, ⟨a1, hx, .inl ⟨h, by omega, rfl⟩⟩, (hb _ ?_).1, (hb _ ?_).2, rfl⟩
      · rw [Nu.decV_pos a1 (by omega), List.append_nil]
      · split
        · exact .inl rfl
        · exact .inr rfl
      · split
        · exact .inl rfl
        · exact .inr rfl
    · have hw : wLn G i = true := by
        have : 1 < G.kd := by omega
        simp [wLn, this]
      rw [hw, if_pos rfl]
      exact ⟨Nu.decV x ++ [10], [], [], by simp, ⟨a1, hx, .inr ⟨h, 10, b10, rfl⟩⟩, (fun e he => by cases he), Nat.zero_le _, rfl⟩
theorem smps_succ (l : List Int) (i : Nat) (h : i < l.length) : (l.take (i + 1)).flatMap Pq.Px.smp = (l.take i).flatMap Pq.Px.smp ++ Pq.Px.smp (l.getD i 0) := by
  rw [take_getD l i h, List.flatMap_append]
  simp
theorem sq_all {G : Hd.H} {l : List Int} (hm : May G) (hl : Fits G l) : ∀ i, i ≤ l.length → Sq G.kd G.m 1 ((l.take i).flatMap Pq.Px.smp) (wAll G l i)
  | 0, _ => by simp [wAll, Sq]
  | i + 1, hi => by
    rw [smps_succ l i (by omega), wAll_succ, List.append_assoc]
    exact (sq_all hm hl i (by omega)).app (sq_pix hm (hl _ (getD_mem (by omega))))
/-- behind i pixels -/
def pst (G : Hd.H) (l : List Int) (W i : Nat) : S := ⟨G, 0, false, [], (l.drop (i / W * W)).take (i % W), ((i / W : Nat) : Int), 0, 0⟩
theorem dm_lt {i W : Nat} (h : i % W + 1 < W) : (i + 1) / W = i / W ∧ (i + 1) % W = i % W + 1 := by
  have h0 := Nat.div_add_mod i W
  have hW : 0 < W := by omega
  have e : i + 1 = W * (i / W) + (i % W + 1) := by omega
  constructor
  · rw [e, Nat.mul_add_div hW, Nat.div_eq_of_lt h, Nat.add_zero]
  · rw [e, Nat.mul_add_mod, Nat.mod_eq_of_lt h]
theorem dm_eq {i W : Nat} (h : i % W + 1 = W) : (i + 1) / W = i / W + 1 ∧ (i + 1) % W = 0 := by
  have h0 := Nat.div_add_mod i W
  have hW : 0 < W := by omega
  have e : i + 1 = W * (i / W + 1) := by rw [Nat.mul_add, Nat.mul_one]; omega
  constructor
  · rw [e, Nat.mul_div_cancel_left _ hW]
  · rw [e, Nat.mul_mod_right]
theorem take_part {l : List Int} {i a r : Nat} (hi : i < l.length) (h : a + r = i) : (l.drop a).take r ++ [l.getD i 0] = (l.drop a).take (r + 1) := by
  rw [List.take_add_one, List.getElem?_drop, h, List.getD_eq_getElem?_getD, List.getElem?_eq_getElem hi]
  rfl
theorem take_join (l : List Int) (a n : Nat) : l.take a ++ (l.drop a).take n = l.take (a + n) := by
  rw [List.take_add]
section
variable {G : Hd.H} {l : List Int} {W H : Nat} (hm : May G) (hl : Fits G l) (hW : G.w = (W : Int)) (hH : G.h = (H : Int)) (hN : l.length = W * H)
include hm hl hW hH hN
theorem tell_pix {i : Nat} (hi : i < l.length) : ∃ ys y, Pq.Px.smp (l.getD i 0) = ys ++ [y] ∧ Live (pst G l W i) ys ∧ (tell (pst G l W i) ys).2 = [] ∧
    (i + 1 < l.length → (sample (tell (pst G l W i) ys).1 y).1 = pst G l W (i + 1)) ∧ (i + 1 = l.length → (sample (tell (pst G l W i) ys).1 y).1.last = 1) ∧ l.take (i / W * W) ++ (sample (tell (pst G l W i) ys).1 y).2 = l.take ((i + 1) / W * W) := by
  have hmm := hm.m
  have h0 := Nat.div_add_mod i W
  have hW0 : 0 < W := by omega
  have hr : i % W < W := Nat.mod_lt _ hW0
  have hc : i / W * W + i % W = i := by rw [Nat.mul_comm]; exact h0
  have hrow : (pst G l W i).row.length = i % W := by show ((l.drop (i / W * W)).take (i % W)).length = _; rw [List.length_take, List.length_drop]; omega
  obtain ⟨ys, y, h1, h2, h3, h4⟩ := pix_tell (s := pst G l W i) hm ⟨rfl, rfl, rfl⟩ rfl (hl _ (getD_mem hi))
  refine ⟨ys, y, h1, h2, h3, ?_⟩
  rw [hrow, show (pst G l W i).h.w = (W : Int) from hW, show (pst G l W i).h.h = (H : Int) from hH] at h4
  have hp := take_part hi hc
  by_cases hx : i % W + 1 < W
  · rw [if_pos (by omega)] at h4
    rw [h4]
    obtain ⟨d1, d2⟩ := dm_lt hx
    refine ⟨fun _ => ?_, fun he => ?_, by simp [d1]⟩
    · unfold pst
      rw [d1, d2, ← hp]
    · exfalso
      have := Nat.mul_mod_right W H
      rw [← hN, ← he, d2] at this
      omega
  · rw [if_neg (by omega)] at h4
    rw [h4]
    have hx1 : i % W + 1 = W := by omega
    obtain ⟨d1, d2⟩ := dm_eq hx1
    have hq : W * (i / W + 1) = i + 1 := by rw [Nat.mul_add, Nat.mul_one]; omega
    refine ⟨fun hlt => ?_, fun he => ?_, ?_⟩
    · have : i / W + 1 < H := by
        apply Nat.lt_of_mul_lt_mul_left (a := W)
        rw [hq, ← hN]; exact hlt
      unfold pst
      simp only [d1, d2]
      rw [if_neg (by omega)]
      simp
    · have : i / W + 1 = H := by
        apply Nat.eq_of_mul_eq_mul_left hW0
        rw [hq, ← hN]; exact he
      show (if (pst G l W i).rows + 1 = (H : Int) then (1 : Int) else 0) = 1
      rw [if_pos (by show ((i / W : Nat) : Int) + 1 = (H : Int); omega)]
    · show l.take (i / W * W) ++ ((l.drop (i / W * W)).take (i % W) ++ [l.getD i 0]) = _
      rw [hp, hx1, take_join, d1, Nat.add_mul, Nat.one_mul]
theorem tell_all : ∀ i, i < l.length → tell (new G) ((l.take i).flatMap Pq.Px.smp) = (pst G l W i, l.take (i / W * W)) ∧ Live (new G) ((l.take i).flatMap Pq.Px.smp)
  | 0, _ => by
    refine ⟨?_, trivial⟩
    simp [tell, pst, new]
  | i + 1, hi => by
    obtain ⟨h1, h2⟩ := tell_all i (by omega)
    obtain ⟨ys, y, k1, k2, k3, k4, k5, k6⟩ := tell_pix hm hl hW hH hN (i := i) (by omega)
    rw [smps_succ l i (by omega), k1]
    have k4 := k4 hi
    constructor
    · rw [tell_app, h1]
      simp only []
      rw [tell_app, k3]
      simp only [tell, List.append_nil, List.nil_append]
      rw [k4, k6]
    · refine live_app _ _ _ h2 ?_
      rw [h1]
      refine live_app _ _ _ k2 ⟨?_, trivial⟩
      rw [k4]; rfl
theorem tell_end : ∃ zs z, l.flatMap Pq.Px.smp = zs ++ [z] ∧ Live (new G) zs ∧ (sample (tell (new G) zs).1 z).1.last = 1 ∧ (tell (new G) (zs ++ [z])).2 = l := by
  have hmm := hm.m
  have hpos : 0 < l.length := by rw [hN]; exact Nat.mul_pos (by omega) (by omega)
  obtain ⟨i, hi⟩ : ∃ i, l.length = i + 1 := ⟨l.length - 1, by omega⟩
  obtain ⟨h1, h2⟩ := tell_all hm hl hW hH hN i (by omega)
  obtain ⟨ys, y, k1, k2, k3, k4, k5, k6⟩ := tell_pix hm hl hW hH hN (i := i) (by omega)
  have hs := smps_succ l i (by omega)
  rw [List.take_of_length_le (show l.length ≤ i + 1 by omega), k1, ← List.append_assoc] at hs
  have he : (i + 1) / W * W = l.length := by rw [← hi, hN, Nat.mul_div_cancel_left _ (by omega), Nat.mul_comm]
  rw [he, List.take_length] at k6
  refine ⟨_, y, hs, ?_, ?_, ?_⟩
  · refine live_app _ _ _ h2 ?_
    rw [h1]; exact k2
  · rw [tell_app, h1]; exact k5 hi.symm
  · rw [tell_app, tell_app, h1]
    simp only []
    rw [k3]
    simp only [tell, List.append_nil]
    exact k6
/-- what has all samples, is read -/
theorem read_all {b : Nat} {es t : List Int} (he : ∀ e ∈ es, Tk.blank e = true) (hq : Sq G.kd G.m b (l.flatMap Pq.Px.smp) t) :
    ∃ n : Nat, readV G (es ++ t) = (l, (n : Int), 0) ∧ n ≤ es.length + t.length ∧ es.length + t.length ≤ n + b := by
  obtain ⟨zs, z, h1, h2, h3, h4⟩ := tell_end hm hl hW hH hN
  rw [h1] at hq
  have hr : Rdy (new G) := ⟨rfl, rfl, rfl⟩
  obtain ⟨n, k1, k2, k3⟩ := sq_over (s := new G) hr hq h2 h3 (0 + es.length) ([] ++ []) []
  refine ⟨n, ?_, by omega, by omega⟩
  unfold readV
  rw [if_pos hm, (run_blanks hr es he).2]
  simp only [List.append_nil, List.nil_append] at k1 ⊢
  rw [k1, h4]
/-- what lacks samples, is too short -/
theorem read_cut {b k : Nat} {t : List Int} (hk : k < l.length) (hq : Sq G.kd G.m b ((l.take k).flatMap Pq.Px.smp) t) : readV G t = ([], 0, 6) ∧ putS (new G) t = pst G l W k := by
  obtain ⟨h1, h2⟩ := tell_all hm hl hW hH hN k hk
  obtain ⟨r1, r2, r3⟩ := sq_run _ t (new G) ⟨rfl, rfl, rfl⟩ hq h2
  rw [h1] at r1
  refine ⟨?_, r1.1⟩
  unfold readV
  rw [if_pos hm]
  have := r1.2 0 [] []
  rw [List.append_nil] at this
  rw [this]
  have hb : put (pst G l W k) 32 = (pst G l W k, []) := put_blank ⟨rfl, rfl, rfl⟩ (by decide)
  have hf : fin (pst G l W k) = (wrong (pst G l W k) 6, []) := by unfold fin; rw [hb]; rfl
  rw [readF_nil hf]
  rfl
end
end Pl
end Go.Proofs.Ytflpocnbmpdhiaa

/- Pixels of a head, made of any numbers, by the document, over any memory. Condition: the head may be, there are not too many. -/
namespace Go.Proofs.Ytflpocnbmpdhiaa
open Go.RowKit
set_option linter.unusedVariables false

set_option maxRecDepth 100000 in
set_option maxHeartbeats 4000000 in
theorem refPixels_pos (blk off : Nat) (ln cap : Nat) (z : List Int) (G : Hd.H) (hm : Pl.May G) (N : Nat) (hN : G.w * G.h = (N : Int)) (hN1 : N ≤ 100000) (w : World) (hln : ln ≤ 9223372036854775807) (hz : ln ≠ 0) (hzl : z.length = ln) (hs : ∀ i, i < ln → w.cell? ⟨blk, off + i, none⟩ = some (.int .i64 (z.getD i 0))) (hI : ∀ x ∈ z, Nu.I x) :
    Calls Try.prog 38 #[.slice (some ⟨blk, off, none⟩) ln cap, agH G] w (PxR N G w) := by
  have hmm := hm.m
  have hF := refFormat_any G hm.1
  have hcc := Hj.chan_at G
  unfold Hj.fm agH at hF
  obtain ⟨i0, hi, hz0, hz1, hz2⟩ : ∃ i, Try.prog.info? 3 = some i ∧ i.zero = some (.int .i64 0) ∧ i.size = 1 ∧ i.bytes = 8 := (by have h := Try.info_in8; cases hh : Try.prog.info? 3 with | none => rw [hh] at h; cases h | some i => rw [hh] at h; simp at h; exact ⟨i, rfl, h.1, h.2.1, h.2.2⟩)
  obtain ⟨p0, pi, pz0, pz1, pz2⟩ : ∃ i, Try.prog.info? 71 = some i ∧ i.zero = some (.int .u64 0) ∧ i.size = 1 ∧ i.bytes = 8 := (by have h := Try.info_px8; cases hh : Try.prog.info? 71 with | none => rw [hh] at h; cases h | some i => rw [hh] at h; simp at h; exact ⟨i, rfl, h.1, h.2.1, h.2.2⟩)
  have hte : 3 ≠ 71 := by decide
  obtain ⟨c, hc⟩ : ∃ c : Nat, Hj.chan G = (c : Int) := ⟨(Hj.chan G).toNat, by omega⟩
  have hc13 : c = 1 ∨ c = 3 := by omega
  have HGP : Hid (∀ l, Pq.GoodP (Pq.Px.goodV l c G.m) c G.m) := Lib.hid fun l => Pq.good_is l (by omega) (by omega) (by omega)
  have HGS : Hid (∀ (a : Option Addr) (len cap : Nat) (l : List Int) (W : World), len ≤ 9223372036854775807 → (∀ x ∈ l, Nu.I x) → Pq.Sl W a len l → Calls Try.prog 64 #[.slice a len cap, .agg #[.int .i64 c, .int .i64 G.m]] W fun e w' => e = .returned (.int .u64 (Pq.Px.goodV l c G.m)) ∧ Below W.heap.size W w') := Lib.hid fun a len cap l W h1 h2 h3 => Pq.good_sl a len cap l c G.m h1 (fun x hx => h2 x hx) (by omega) (by omega) (by omega) W h3
  rw [hc] at hF
  have HF := Lib.hid hF
  have HS := Lib.hid hs
  have HZ0 := Lib.hid hzl
  have HI := Lib.hid hI
  have HC := Lib.hid hc
  have HN := Lib.hid hN
  have gN : wrap64 (G.w * G.h) = (N : Int) := by rw [hN, IntWalk.wrap64_in] <;> omega
  clear hzl
  clear hF hs hI hc hN hmm hm hcc
  unfold agH
  go_enter Try.func38, Try.ntmps38
  go_wp2_with fail
  refine (HF.out _).mono ?_
  rintro e w1 ⟨rfl, hb⟩
  have HB1 := Lib.hid (((Below.refl _ w).alloc (Nat.le_refl _) _).trans (hb.mono (by simp)))
  have HK1 := Lib.hid ((Hb.new w 25 G).later hb)
  clear hb
  go_upto_region 3 with fail
  generalize hW : w1.alloc (.cells #[.int .i64 c, .int .i64 G.m] 108) = w3
  have hx : Below w1.heap.size w1 w3 := by rw [← hW]; exact box1' _ _
  have l0 : w3.cell? ⟨w1.heap.size, 0, none⟩ = some (.int .i64 c) := by rw [← hW]; simp [go_sem]
  have l1 : w3.cell? ⟨w1.heap.size, 1, none⟩ = some (.int .i64 G.m) := by rw [← hW]; simp [go_sem]
  have HB3 := Lib.hid (HB1.out.trans (hx.mono HB1.out.size))
  have HK3 := Lib.hid (HK1.out.later hx)
  have HL0 := Lib.hid l0
  have HL1 := Lib.hid l1
  clear hW hx l0 l1 HB1 HK1
  go_wp2_with fail
  go_loopw [6, 7] (fun u6 u7 wr => PxOut w3 N G u6 u7 wr) (fun _ u7 _ => N - (intOf u7).toNat)
  case atStart => exact ⟨0, [], _, Nat.zero_le _, rfl, rfl, World.ownsRow_nil _ _ _ _, rfl, (fun p hp => by cases hp), .refl _ _⟩
  case round =>
    obtain ⟨i, gs, v, hi1, rfl, rfl, hrow, hgl, hfit, hB⟩ := hrel
    have HROW := Lib.hid hrow
    have HFIT := Lib.hid hfit
    have HGL := Lib.hid hgl
    have HB := Lib.hid hB
    have hK := HK3.out.later hB
    obtain ⟨k0, k1, k2, k3⟩ := hK.cells
    clear hrow hfit hgl hB hK
    by_cases hlt : i < N
    · have hP : (i : Int) * (c : Int) = ((i * c : Nat) : Int) := by simp
      obtain ⟨P, hPP⟩ : ∃ P : Nat, i * c = P := ⟨_, rfl⟩
      rw [hPP] at hP
      have hP1 : P ≤ 300000 := by rw [← hPP]; rcases hc13 with h | h <;> subst h <;> omega
      have gP : wrap64 ((i : Int) * (c : Int)) = (P : Int) := by rw [hP, IntWalk.wrap64_in] <;> omega
      have HP := Lib.hid hP
      clear hP hPP
      go_wp2_with fail
      clear k0 k1 k2 k3 gN
      go_loopw [8, 9, 10] (fun u8 u9 u10 wr => PxIn w3 c i gs v u8 u9 wr) (fun _ u9 _ _ => c - (intOf u9).toNat)
      case atStart => exact ⟨0, [], _, Nat.zero_le _, rfl, rfl, World.ownsRow_nil _ _ _ _, rfl, (fun x hx => by cases hx), HROW.out, HB.out⟩
      case round =>
        obtain ⟨k, zs, u, hk1, rfl, rfl, hro, hzl, hzI, hrp, hC⟩ := hrel
        have HRO := Lib.hid hro
        have HZI := Lib.hid hzI
        have HZL := Lib.hid hzl
        have HRP := Lib.hid hrp
        have HC2 := Lib.hid hC
        have l0 := cell_later hC HL0.out
        have l1 := cell_later hC HL1.out
        clear hro hzI hzl hrp hC HROW HB
        by_cases hkt : k < c
        · have hck : c ≤ 3 := by omega
          have q1 : 0 < ln := by omega
          have q2 : decide (0 < (ln : Int)) = true := decide_eq_true (by omega)
          have q3 : (0 : Int) < (ln : Int) := by omega
          have q4 : decide (0 < ln) = true := decide_eq_true q1
          have q5 : ¬ (ln : Int) = 0 := by omega
          have q6 : ((ln : Int) == 0) = false := by simp; omega
          have q7 : (ln == 0) = false := by simp; omega
          obtain ⟨r, hr⟩ : ∃ r, (P + k) % ln = r := ⟨_, rfl⟩
          have hrl : r < ln := by rw [← hr]; exact Nat.mod_lt _ q1
          have e1 : ((P : Int) + (k : Int)) % (ln : Int) = (r : Int) := by rw [← hr]; simp
          have e2 : ((P : Int) + (k : Int)).tmod (ln : Int) = (r : Int) := by rw [Int.tmod_eq_emod_of_nonneg (by omega)]; exact e1
          have e3 : wrap64 ((P : Int) + (k : Int)) = (P : Int) + k := by rw [IntWalk.wrap64_in] <;> omega
          have e4 : wrap64 (r : Int) = (r : Int) := by rw [IntWalk.wrap64_in] <;> omega
          obtain ⟨y, hy⟩ : ∃ y, z.getD r 0 = y := ⟨_, rfl⟩
          have hyI : Nu.I y := by
            rw [← hy, List.getD_eq_getElem?_getD, List.getElem?_eq_getElem (by rw [HZ0.out]; exact hrl)]
            exact HI.out _ (List.getElem_mem _)
          have HYI := Lib.hid hyI
          have hcell : wr.cell? ⟨blk, off + r, none⟩ = some (.int .i64 y) := cell_later (HB3.out.trans (HC2.out.mono HB3.out.size)) (by rw [HS.out r hrl, hy])
          clear hr hy hyI
          go_wp2_with (at_builtin; refine wpList_app rfl _ _ 69 rfl w3.heap.size 3 i0 .i64 8 Try.underlying69 hi hz0 hz1 hz2 u k (ints zs) rfl (HRO.out.alloc _) (some ⟨_, 0, none⟩) 1 1 [y] rfl (one_slk _ _ _ _) (by unfold maxLen; omega) (by omega) (by have := HC2.out.size; simp; omega) ?_; intro v2 w5 hown hgrow hat; have HO5 := Lib.hid hown; have HR5 := Lib.hid ((HRP.out.alloc _).kept hgrow (apart_rows (Ne.symm hte) HRP.out HRO.out)); have HC5 := Lib.hid ((HC2.out.alloc HC2.out.size _).grown hgrow (by have := HC2.out.size; simp; omega) (fun j ej => (HRO.out.lt j ej).1)); clear hown hgrow hat)
          go_roundw
          case rel => exact ⟨k + 1, zs ++ [y], v2, by omega, by go_num, rfl, by have h := HO5.out; unfold ints; rw [List.map_append]; exact h, by rw [List.length_append, HZL.out]; rfl, (fun x hx => by
            rcases List.mem_append.1 hx with h | h
            · exact HZI.out x h
            · rw [List.mem_singleton.1 h]; exact HYI.out), HR5.out, HC5.out⟩
          case measure => simp [intOf]; omega
        · have hkc : k = c := by omega
          subst hkc
          obtain ⟨a', c', rfl, hsl⟩ := sl_of_row (z := 0) rfl HRO.out HZL.out
          have HSL := Lib.hid hsl
          obtain ⟨g, hg⟩ : ∃ g, Pq.Px.goodV zs k G.m = g := ⟨_, rfl⟩
          have HGG := Lib.hid hg
          clear hsl hg
          have hk9 : k ≤ 3 := by omega
          go_wp2_with (first
            | (at_builtin; refine wpList_app rfl _ _ 52 rfl w3.heap.size 71 p0 .u64 8 Try.underlying52 pi pz0 pz1 pz2 v i (pixs gs) rfl (HR9.out.alloc _) (some ⟨_, 0, none⟩) 1 1 [g] rfl (one_slk _ _ _ _) (by unfold maxLen; omega) (by omega) (by have := HC9.out.size; simp; omega) ?_; intro v2 w5 hown hgrow hat; have HO5 := Lib.hid hown; have HC5 := Lib.hid ((HC9.out.alloc HC9.out.size _).grown hgrow (by have := HC9.out.size; simp; omega) (fun j ej => (HR9.out.lt j ej).1)); clear hown hgrow hat)
            | (go_at_call 64; refine (HGS.out a' k c' zs _ (by omega) HZI.out HSL.out).mono ?_; rw [HGG.out]; rintro e w9 ⟨rfl, hb⟩; have HR9 := Lib.hid (below_row HRP.out hb); have HC9 := Lib.hid (HC2.out.trans (hb.mono HC2.out.size)); clear hb))
          go_roundw
          case rel => exact ⟨i + 1, gs ++ [g], v2, by omega, by go_num, rfl, by have h := HO5.out; unfold pixs; rw [List.map_append]; exact h, by rw [List.length_append, HGL.out]; rfl, (fun x hx => by
            rcases List.mem_append.1 hx with h | h
            · exact HFIT.out x h
            · rw [List.mem_singleton.1 h, ← HGG.out, HC.out]; exact HGP.out zs), HC5.out⟩
          case measure => simp [intOf]; omega
    · have hiN : i = N := by omega
      obtain ⟨ad, cp, rfl, _⟩ : ∃ ad cp, v = .slice ad i cp ∧ True := by
        rcases HROW.out.2 with ⟨rfl, rfl⟩ | ⟨g, cap, cur, rfl, _⟩
        · exact ⟨none, 0, rfl, trivial⟩
        · exact ⟨_, _, rfl, trivial⟩
      subst hiN
      go_wp2
      go_ret
      exact ⟨ad, cp, gs, rfl, HGL.out, HFIT.out, ownsRow_base HROW.out (HB3.out.size), HB3.out.trans (HB.out.mono HB3.out.size)⟩
end Go.Proofs.Ytflpocnbmpdhiaa

/- A raster of digits written by the document, over any memory. Condition: the head may be, there are as many pixels as it has, and not too many. -/
namespace Go.Proofs.Ytflpocnbmpdhiaa
open Go.RowKit
end Go.Proofs.Ytflpocnbmpdhiaa

/- Pixels of a head out of any list that came in; a text with more blanks behind each blank. Condition: the head may be, and there are not too many pixels. -/
namespace Go.Proofs.Ytflpocnbmpdhiaa
open Go.RowKit
set_option linter.unusedVariables false

/-- what Pixels hands back, told -/
def PxT (N : Nat) (G : Hd.H) (w : World) (e : Ending) (w' : World) : Prop :=
  ∃ ad cp l, e = .returned (.slice ad N cp) ∧ l.length = N ∧ Pl.Fits G l ∧ SlK .u64 w' ad N l ∧ Below w.heap.size w w'
theorem refPixels_any {w0 : World} {a : Option Addr} {ln cap : Nat} {z : List Int} (hr : IsRow .i64 w0 a ln cap z) (G : Hd.H) (hm : Pl.May G) (N : Nat) (hN : G.w * G.h = (N : Int)) (hN1 : N ≤ 100000) (w : World) (hb : Below w0.heap.size w0 w) :
    Calls Try.prog 38 #[.slice a ln cap, agH G] w (PxT N G w) := by
  have hs := (isrow_takeK hr ln (Nat.le_refl _)).below hb
  have hI : ∀ x ∈ z.take ln, Nu.I x := fun x hx => wfI (isrow_wfK hr x (List.mem_of_mem_take hx))
  obtain ⟨l1, l2, l3, l4⟩ := isrow_len hr
  have hout : ∀ e w', PxR N G w e w' → PxT N G w e w' := by
    rintro e w' ⟨ad, cp, l, h1, h2, h3, h4, h5⟩
    exact ⟨ad, cp, l, h1, h2, h3, slk_of_row h4 h2, h5⟩
  by_cases hz : ln = 0
  · exact (refPixels_zero a ln cap (z.take ln) G hm N hN hN1 w hz hs hI).mono hout
  · rcases hs.2 with h | ⟨blk, off, rfl, hc⟩
    · have := hs.1; rw [h] at this; simp at this; omega
    · exact (refPixels_pos blk off ln cap (z.take ln) G hm N hN hN1 w l1 hz hs.1 hc hI).mono hout
namespace Pl
/-- more blanks behind each blank; of the kind 1 behind each byte -/
def spr (kd c : Int) (x : Int) : List Int := if Tk.blank x = true ∨ kd = 1 then [x, c, c] else [x]
def spread (kd c : Int) (t : List Int) : List Int := t.flatMap (spr kd c)
theorem spread_app (kd c : Int) (t u : List Int) : spread kd c (t ++ u) = spread kd c t ++ spread kd c u := by simp [spread]
theorem decV_digits {z : Int} (h : 0 ≤ z) : ∀ x ∈ Nu.decV z, 48 ≤ x ∧ x ≤ 57 := by
  rw [Nu.decV_up h]
  intro x hx
  rw [List.mem_reverse, List.mem_map] at hx
  obtain ⟨d, hd, rfl⟩ := hx
  have := Nu.dig_lt (b := 10) (by omega) z d hd
  omega
theorem spread_digits {kd c : Int} (hk : ¬ kd = 1) : ∀ (t : List Int), (∀ x ∈ t, 48 ≤ x ∧ x ≤ 57) → spread kd c t = t
  | [], _ => rfl
  | x :: t, h => by
    have h1 := digit_not (h x (List.mem_cons_self ..))
    have h2 := spread_digits (c := c) hk t fun y hy => h y (List.mem_cons_of_mem _ hy)
    unfold spread at *
    rw [List.flatMap_cons, h2]
    simp [spr, h1, hk]
theorem spread_blanks {kd c : Int} (hc : Tk.blank c = true) : ∀ (es : List Int), (∀ e ∈ es, Tk.blank e = true) → (∀ e ∈ spread kd c es, Tk.blank e = true) ∧ (spread kd c es).length = 3 * es.length
  | [], _ => ⟨fun e he => (by cases he), rfl⟩
  | x :: es, h => by
    have h1 := h x (List.mem_cons_self ..)
    obtain ⟨h2, h3⟩ := spread_blanks hc es fun y hy => h y (List.mem_cons_of_mem _ hy)
    have e : spread kd c (x :: es) = [x, c, c] ++ spread kd c es := by unfold spread; rw [List.flatMap_cons]; simp [spr, h1]
    rw [e]
    refine ⟨fun y hy => ?_, by rw [List.length_append, h3, List.length_cons]; simp; omega⟩
    rcases List.mem_append.1 hy with hy | hy
    · simp at hy; rcases hy with rfl | rfl
      · exact h1
      · exact hc
    · exact h2 y hy
theorem sq_spread {kd m c : Int} {b : Nat} (hc : Tk.blank c = true) : ∀ (zs t : List Int), Sq kd m b zs t → Sq kd m (3 * b + 2) zs (spread kd c t)
  | [], t, h => by unfold Sq at *; subst h; rfl
  | z :: zs, t, h => by
    obtain ⟨bs, es, t', rfl, ⟨z0, z1, h1⟩, h2, h3, h4⟩ := h
    obtain ⟨k1, k2⟩ := spread_blanks (kd := kd) hc es h2
    have ih := sq_spread hc zs t' h4
    have hcc : ∀ e ∈ [c, c] ++ spread kd c es, Tk.blank e = true := fun e he => by
      rcases List.mem_append.1 he with he | he
      · simp at he; subst he; exact hc
      · exact k1 e he
    have hll : ([c, c] ++ spread kd c es).length ≤ 3 * b + 2 := by rw [List.length_append, k2]; simp; omega
    rcases h1 with ⟨hk, hz, rfl⟩ | ⟨hk, x, hx, rfl⟩
    · refine ⟨[48 + z], [c, c] ++ spread kd c es, spread kd c t', ?_, ⟨z0, z1, .inl ⟨hk, hz, rfl⟩⟩, hcc, hll, ih⟩
      rw [spread_app, spread_app]
      simp [spread, spr, hk]
    · refine ⟨Nu.decV z ++ [x], [c, c] ++ spread kd c es, spread kd c t', ?_, ⟨z0, z1, .inr ⟨hk, x, hx, rfl⟩⟩, hcc, hll, ih⟩
      rw [spread_app, spread_app, spread_app, spread_digits hk _ (decV_digits z0)]
      simp [spread, spr, hx]
theorem spread_len (kd c : Int) : ∀ t : List Int, (spread kd c t).length ≤ 3 * t.length
  | [] => by simp [spread]
  | x :: t => by
    have h := spread_len kd c t
    unfold spread at *
    rw [List.flatMap_cons, List.length_append, List.length_cons]
    have : (spr kd c x).length ≤ 3 := by unfold spr; split <;> simp
    omega
theorem spread_succ (kd c : Int) {t : List Int} {i : Nat} (h : i < t.length) : spread kd c (t.take (i + 1)) = spread kd c (t.take i) ++ spr kd c (t.getD i 0) := by
  rw [take_getD t i h, spread_app]
  simp [spread]
theorem bytes_part {xs : List Int} (hx : ∀ x ∈ xs, 0 ≤ x ∧ x ≤ 255) {i : Nat} (h : i < xs.length) : (strOfNums xs).extract i (i + 1) = strOfNums [xs.getD i 0] := by
  have hb := bytesOf_strOfNums hx
  apply ByteArray.ext
  rw [ByteArray.data_extract]
  apply Array.toList_inj.1
  rw [Array.toList_extract, List.extract_eq_take_drop, show i + 1 - i = 1 by omega]
  show (((xs.map fun n => UInt8.ofNat n.toNat).toArray.toList.drop i).take 1) = ([xs.getD i 0].map fun n => UInt8.ofNat n.toNat)
  rw [List.drop_eq_getElem_cons (by simpa using h)]
  simp [List.getD_eq_getElem?_getD, List.getElem?_eq_getElem h]
theorem byte_get {xs : List Int} (hx : ∀ x ∈ xs, 0 ≤ x ∧ x ≤ 255) {i : Nat} (h : i < (strOfNums xs).size) (h2 : i < xs.length) : (((strOfNums xs)[i]'h).toNat : Int) = xs.getD i 0 := by
  have e : ((strOfNums xs)[i]'h) = UInt8.ofNat (xs[i]).toNat := by
    show ((xs.map fun n => UInt8.ofNat n.toNat).toArray)[i]'(by simpa using h2) = _
    simp
  have hr := hx xs[i] (List.getElem_mem h2)
  rw [e, List.getD_eq_getElem?_getD, List.getElem?_eq_getElem h2]
  simp only [Option.getD_some]
  rw [UInt8.toNat_ofNat']
  omega
theorem wAll_bytes {G : Hd.H} {l : List Int} (hl : Fits G l) : ∀ i, i ≤ l.length → ∀ x ∈ wAll G l i, 0 ≤ x ∧ x ≤ 255
  | 0, _, x, h => by cases h
  | i + 1, hi, x, h => by
    have ht : ∀ (zs : List Int) k, ∀ x ∈ wTk zs k, 0 ≤ x ∧ x ≤ 255 := by
      intro zs k
      induction k with
      | zero => intro x h; cases h
      | succ k ih =>
        intro x h
        rw [wTk_succ] at h
        rcases List.mem_append.1 h with h | h
        · rcases List.mem_append.1 h with h | h
          · exact ih x h
          · exact Nu.decV_bytes _ x h
        · split at h
          · rw [List.mem_singleton.1 h]; omega
          · cases h
    rw [wAll_succ] at h
    rcases List.mem_append.1 h with h | h
    · rcases List.mem_append.1 h with h | h
      · exact wAll_bytes hl i (by omega) x h
      · exact ht _ _ x h
    · split at h
      · rw [List.mem_singleton.1 h]; omega
      · cases h
theorem fits_all {G : Hd.H} {l : List Int} (hm : May G) (hl : Fits G l) : fitAll G l = true := by
  unfold fitAll
  rw [List.all_eq_true]
  intro p hp
  have := hm.m
  exact fits_true (hl p hp) (by omega) (by omega)
end Pl
end Go.Proofs.Ytflpocnbmpdhiaa

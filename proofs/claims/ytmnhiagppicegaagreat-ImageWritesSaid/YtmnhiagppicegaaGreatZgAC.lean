/- What Unpack, May, Format and Fits come to, over any memory, of pix and of the document's own answer. Condition: numbers fit their kinds. -/
import Derived.Test.YtmnhiagppicegaaGreatZQPixA
import Derived.Deep.RegionHeld3
import Derived.Deep.DrawnRows
import Derived.Deep.QuietTactic
import Derived.BigQuiet
import Derived.Deep.RegionWith
import Derived.Test.YtmnhiagppicegaaGreatZgAA
import Derived.Test.YtmnhiagppicegaaGreatZTokC
import Derived.Lib.Hide
import Derived.Test.YtmnhiagppicegaaGreatZBtD
import Derived.Deep.LoopGhost
import Derived.Lib.ConvBytes
import Derived.Laws.AppendOwn
import Derived.Test.YtmnhiagppicegaaGreatZgAB
import Derived.Test.YtmnhiagppicegaaGreatZHedK
import Derived.Laws.EntriesVeiled
namespace Go.Proofs.YtmnhiagppicegaaGreat
open Go.RowKit
set_option linter.unusedVariables false
namespace Pq
/-- Integers in memory of the call's own. -/
def Own (base : Nat) (w : World) (ad : Option Addr) (zs : List Int) : Prop :=
  zs = [] ∨ ∃ g, ad = some ⟨g, 0, none⟩ ∧ base ≤ g ∧ g < w.heap.size ∧ (∀ i, i < zs.length → w.cell? ⟨g, i, none⟩ = some (.int .i64 (zs.getD i 0))) ∧ (∀ i, i < zs.length → w.frozen? ⟨g, i, none⟩ = false)
theorem Own.sl {base : Nat} {w : World} {ad : Option Addr} {zs : List Int} (h : Own base w ad zs) : Sl w ad zs.length zs := by
  refine ⟨rfl, ?_⟩
  rcases h with rfl | ⟨g, h1, _, _, h2, _⟩
  · exact .inl rfl
  · exact .inr ⟨g, 0, h1, fun i hi => by simpa using h2 i hi⟩
theorem Own.mono {base base' : Nat} {w : World} {ad : Option Addr} {zs : List Int} (h : Own base w ad zs) (hb : base' ≤ base) : Own base' w ad zs := by
  rcases h with h | ⟨g, h1, h2, h3⟩
  · exact .inl h
  · exact .inr ⟨g, h1, Nat.le_trans hb h2, h3⟩
theorem Own.later {base : Nat} {w w' : World} {ad : Option Addr} {zs : List Int} (h : Own base w ad zs) (hb : Below w.heap.size w w') : Own base w' ad zs := by
  rcases h with rfl | ⟨g, h1, h2, h3, h4, h5⟩
  · exact .inl rfl
  · exact .inr ⟨g, h1, h2, by have := hb.size; omega, fun i hi => cell_later hb (h4 i hi), fun i hi => by rw [hb.frozen (p := ⟨g, i, none⟩) h3]; exact h5 i hi⟩
theorem own_row {base : Nat} {w : World} {v : Value} {n : Nat} {zs : List Int} (hn : zs.length = n) (h : w.ownsRow base 3 1 v n (zs.map (Value.int .i64))) :
    ∃ ad cap, v = .slice ad n cap ∧ Own base w ad zs := by
  have H := h
  obtain ⟨h1, h2⟩ := h
  rcases h2 with ⟨rfl, rfl⟩ | ⟨g, cap, cur, rfl, hb, hg, hle, hm, hsz, htk⟩
  · exact ⟨none, 0, rfl, .inl (by cases zs with | nil => rfl | cons => simp at hn)⟩
  · refine ⟨_, cap, rfl, .inr ⟨g, rfl, hb, (H.lt g rfl).2, fun i hi => ?_, fun i hi => H.frozenAt i⟩⟩
    have hi' : i < (zs.map (Value.int .i64)).length := by simpa using hi
    have e : cur[i]? = some (.int .i64 (zs.getD i 0)) := by
      have : (zs.map (Value.int .i64))[i]? = some (.int .i64 (zs.getD i 0)) := by
        rw [List.getElem?_map, List.getElem?_eq_getElem hi, List.getD_eq_getElem?_getD, List.getElem?_eq_getElem hi]; rfl
      rw [← htk, List.getElem?_take_of_lt (by simp at hi'; omega)] at this
      simpa using this
    simp [World.cell?, hg, e]
theorem own_lit (w : World) (cs : Array Value) (zs : List Int) (h : cs.toList = zs.map (Value.int .i64)) : Own w.heap.size (w.alloc (.cells cs 3)) (some ⟨w.heap.size, 0, none⟩) zs := by
  refine .inr ⟨w.heap.size, rfl, Nat.le_refl _, by simp, fun i hi => ?_, fun i hi => by simp [go_sem]⟩
  rw [World.cell?_alloc_at _ _ _ _ rfl]
  have : cs[i]? = cs.toList[i]? := by simp
  rw [this, h, List.getElem?_map, List.getElem?_eq_getElem hi, List.getD_eq_getElem?_getD, List.getElem?_eq_getElem hi]; rfl
/-- a result that is a slice of one's own -/
def OutSl (w : World) (zs : List Int) (e : Ending) (w' : World) : Prop :=
  ∃ ad cap, e = .returned (.slice ad zs.length cap) ∧ Own w.heap.size w' ad zs ∧ Below w.heap.size w w'

theorem addr_add (b off j : Nat) : (⟨b, off, none⟩ : Addr).add j = ⟨b, off + j, none⟩ := by cases j <;> simp [Addr.add]
theorem Tryz.info_int : (Tryz.prog.info? 3).map (fun i => (i.zero, i.size, i.bytes)) = some (some (.int .i64 0), 1, 8) := by kernel_rfl

theorem clone_some (b off len cap : Nat) (zs : List Int) (w : World) (hz : zs.length = len) (hlen : len * 8 ≤ 140737488355328)
    (hc : ∀ i, i < len → w.cell? ⟨b, off + i, none⟩ = some (.int .i64 (zs.getD i 0))) :
    Calls Tryz.prog 186 #[.slice (some ⟨b, off, none⟩) len cap] w (OutSl w zs) := by
  obtain ⟨i0, hi, hz0, hz1, hz2⟩ := info_parts Tryz.info_int
  have hn := Lib.run_eql_slice_nil (P := Tryz.prog)
  have hni : ∀ i, (zs.map (Value.int .i64))[i]? = (zs[i]?).map (Value.int .i64) := fun i => List.getElem?_map ..
  have HN := Lib.hid hni; clear hni
  have HC := Lib.hid hc; clear hc
  have hb1 : len ≤ maxLen := by unfold maxLen; omega
  have HZ := Lib.hid hz; clear hz
  by_cases h0 : len = 0
  · subst h0
    have hz' : zs = [] := List.eq_nil_of_length_eq_zero HZ.out
    subst hz'
    go_enter Tryz.func186, Tryz.ntmps186
    go_wp2_with (at_builtin; refine wpList_append_fits _ rfl (.tmp 5) (.tmp 6) 22 rfl w.heap.size 3 i0 1 Tryz.underlying22 hi hz1 w.heap.size 0 0 [] rfl ?own ⟨b, off, none⟩ 0 cap [] rfl rfl ?c1 ?c2 (Nat.le_refl _) ?grow)
    case own => exact World.ownsRow_made w #[] 0 (Nat.le_refl _) (by unfold maxLen; omega) rfl
    case c1 => intro j u hj; simp at hj
    case c2 => intro u hu; simp at hu
    case grow =>
      intro w' hown hgrow
      go_wp2
      go_ret
      exact ⟨_, 0, rfl, .inl rfl, ((Below.refl _ _).alloc (Nat.le_refl _) _).grown hgrow (by simp) (fun k h => by cases h; exact Nat.le_refl _)⟩
  · go_enter Tryz.func186, Tryz.ntmps186
    go_wp2_with (at_builtin; refine wpList_append_grows _ rfl (.tmp 5) (.tmp 6) 22 rfl 3 i0 (.int .i64 0) 1 8 Tryz.underlying22 hi hz0 hz1 hz2 rfl (by decide) (some ⟨w.heap.size, 0, none⟩) 0 0 [] rfl (fun h => by cases h) rfl (by intro _ _ _ _ h; simp at h) ⟨b, off, none⟩ len cap (zs.map (Value.int .i64)) rfl ?c0 ?c1 ?c2 ?b0 ?b1 ?b2 ?grow)
    case c0 => simpa using HZ.out
    case c1 =>
      intro j u hj
      rw [HN.out] at hj
      have hj' : j < zs.length := by
        rcases Nat.lt_or_ge j zs.length with h | h
        · exact h
        · rw [List.getElem?_eq_none h] at hj; cases hj
      have hj2 : u = .int .i64 (zs.getD j 0) := by
        rw [List.getElem?_eq_getElem hj'] at hj
        rw [List.getD_eq_getElem?_getD, List.getElem?_eq_getElem hj']; simpa using hj.symm
      rw [hj2]
      have := HC.out j (by rw [← HZ.out]; exact hj')
      have hbb : b < w.heap.size := block_lt_of_cell this
      rw [addr_add, World.cell?_alloc_past _ _ _ hbb]
      exact this
    case c2 => intro u hu; simp at hu; obtain ⟨n, _, rfl⟩ := hu; rfl
    case b0 => omega
    case b1 => omega
    case b2 => omega
    case grow =>
      intro v' w' hown hgrow
      go_wp2
      go_ret
      have hbel : Below w.heap.size w w' := ((Below.refl _ _).alloc (Nat.le_refl _) _).grown hgrow (by simp) (fun k h => by cases h)
      obtain ⟨ad, cp, hv, ho⟩ := own_row (zs := zs) (n := 0 + len) (by rw [HZ.out]; omega) (by simpa using hown)
      have e := HZ.out
      refine ⟨ad, cp, ?_, ho.mono (by simp), hbel⟩
      rw [e, ← Nat.zero_add len, ← hv]; rfl

theorem unpack_any (p : Int) (hU : Px.U p) (w : World) :
    Calls Tryz.prog 170 #[.int .u64 p] w (OutSl w (Px.smp p)) := by
  rcases Px.tri hU with ⟨a, b, c, h⟩ | ⟨a, h⟩ | h
  · have X := Lib.hid (Px.smp3 h)
    go_enter Tryz.func170, Tryz.ntmps170
    go_wp2_with (go_at_call 126; refine (split3 p a b c h _).mono ?_; rintro e w1 ⟨rfl, hb1⟩)
    refine (clone_some _ 0 3 _ [a, b, c] _ rfl (by omega) ?_).mono ?_
    · intro i hi
      obtain rfl | rfl | rfl : i = 0 ∨ i = 1 ∨ i = 2 := by omega
      all_goals simp [go_sem]
    rintro e w2 ⟨ad, cap, rfl, ho, hb2⟩
    go_wp2
    go_ret
    refine ⟨ad, cap, by rw [X.out]; rfl, by rw [X.out]; exact ho.mono (by have := hb1.size; simp; omega), ?_⟩
    exact ((hb1.alloc (by have := hb1.size; omega) _).trans (hb2.mono (B' := w.heap.size) (by have := hb1.size; simp; omega)))
  · have X := Lib.hid (Px.smp1 h)
    go_enter Tryz.func170, Tryz.ntmps170
    go_wp2_with (go_at_call 126; refine (split1 p a h _).mono ?_; rintro e w1 ⟨rfl, hb1⟩)
    refine (clone_some _ 0 1 _ [a] _ rfl (by omega) ?_).mono ?_
    · intro i hi
      obtain rfl : i = 0 := by omega
      all_goals simp [go_sem]
    rintro e w2 ⟨ad, cap, rfl, ho, hb2⟩
    go_wp2
    go_ret
    refine ⟨ad, cap, by rw [X.out]; rfl, by rw [X.out]; exact ho.mono (by have := hb1.size; simp; omega), ?_⟩
    exact ((hb1.alloc (by have := hb1.size; omega) _).trans (hb2.mono (B' := w.heap.size) (by have := hb1.size; simp; omega)))
  · have X := Lib.hid (Px.smp0 h)
    go_enter Tryz.func170, Tryz.ntmps170
    go_wp2_with (go_at_call 126; refine (split0 p hU h _).mono ?_; rintro e w1 ⟨rfl, hb1⟩)
    refine (clone_some _ 0 0 _ [] _ rfl (by omega) ?_).mono ?_
    · intro i hi
      omega
      
    rintro e w2 ⟨ad, cap, rfl, ho, hb2⟩
    go_wp2
    go_ret
    refine ⟨ad, cap, by rw [X.out]; rfl, by rw [X.out]; exact ho.mono (by have := hb1.size; simp; omega), ?_⟩
    exact ((hb1.alloc (by have := hb1.size; omega) _).trans (hb2.mono (B' := w.heap.size) (by have := hb1.size; simp; omega)))


theorem refUnpack_any (p : Int) (hU : Px.U p) (w : World) :
    Calls Tryz.prog 64 #[.int .u64 p] w (OutSl w (Px.smp p)) := by
  rcases Px.tri hU with ⟨a, b, c, h⟩ | ⟨a, h⟩ | h
  · have X := Lib.hid (Px.smp3 h)
    obtain ⟨hp, ha0, ha1, hb0, hb1, hc0, hc1⟩ := h
    have k3 : (p / 281474976710656 == 3) = true := by rw [beq_iff_eq]; omega
    have e1 : 0 ≤ p % 281474976710656 := by omega
    have e2 : p % 281474976710656 < 281474976710656 := by omega
    have x := Lib.hid (show [p % 281474976710656 / 4294967296, p % 281474976710656 / 65536 % 65536, p % 65536] = [a, b, c] by rw [show p % 281474976710656 / 4294967296 = a by omega, show p % 281474976710656 / 65536 % 65536 = b by omega, show p % 65536 = c by omega])
    obtain ⟨h0, h1⟩ := hU
    clear hp
    go_enter Tryz.func64, Tryz.ntmps64
    go_wp2
    go_ret
    exact ⟨_, 3, by rw [X.out]; rfl, by rw [X.out, ← x.out]; exact own_lit w _ _ rfl, (Below.refl _ _).alloc (Nat.le_refl _) _⟩
  · have X := Lib.hid (Px.smp1 h)
    obtain ⟨hp, ha0, ha1⟩ := h
    have k3 : (p / 281474976710656 == 3) = false := by rw [beq_eq_false_iff_ne]; omega
    have k1 : (p / 281474976710656 == 1) = true := by rw [beq_iff_eq]; omega
    have e1 : 0 ≤ p % 281474976710656 := by omega
    have e2 : p % 281474976710656 < 65536 := by omega
    have x := Lib.hid (show [p % 281474976710656] = [a] by rw [show p % 281474976710656 = a by omega])
    obtain ⟨h0, h1⟩ := hU
    clear hp
    go_enter Tryz.func64, Tryz.ntmps64
    go_wp2
    go_ret
    exact ⟨_, 1, by rw [X.out]; rfl, by rw [X.out, ← x.out]; exact own_lit w _ _ rfl, (Below.refl _ _).alloc (Nat.le_refl _) _⟩
  · have X := Lib.hid (Px.smp0 h)
    obtain ⟨h3, h2⟩ := h
    unfold Px.hiP at h3 h2
    unfold Px.loP at h2
    obtain ⟨h0, h1⟩ := hU
    have k3 : (p / 281474976710656 == 3) = false := by rw [beq_eq_false_iff_ne]; omega
    have e1 : 0 ≤ p % 281474976710656 := by omega
    have e2 : p % 281474976710656 < 281474976710656 := by omega
    by_cases hh : p / 281474976710656 = 1
    · have k1 : (p / 281474976710656 == 1) = true := by rw [beq_iff_eq]; omega
      have e3 : ¬ p % 281474976710656 < 65536 := by omega
      clear h3 h2 hh
      go_enter Tryz.func64, Tryz.ntmps64
      go_wp2
      go_ret
      exact ⟨none, 0, by rw [X.out]; rfl, by rw [X.out]; exact .inl rfl, Below.refl _ _⟩
    · have k1 : (p / 281474976710656 == 1) = false := by rw [beq_eq_false_iff_ne]; omega
      clear h3 h2 hh
      go_enter Tryz.func64, Tryz.ntmps64
      go_wp2
      go_ret
      exact ⟨none, 0, by rw [X.out]; rfl, by rw [X.out]; exact .inl rfl, Below.refl _ _⟩

end Pq
end Go.Proofs.YtmnhiagppicegaaGreat

/- What Format, Fits, Form, Good, Gray, Turned and Scaled come to, over any memory, of pix and of the document's own answer. Condition: numbers fit their kinds. -/
namespace Go.Proofs.YtmnhiagppicegaaGreat
open Go.RowKit
set_option linter.unusedVariables false
namespace Pq
theorem format_any (c m : Int) (w : World) :
    Calls Tryz.prog 127 #[.agg #[.int .i64 c, .int .i64 m]] w fun e w' => e = .returned (.bool (Px.formatV c m)) ∧ Below w.heap.size w w' := by
  by_cases hc : c = 1 ∨ c = 3
  · by_cases h1 : 1 ≤ m
    · by_cases h2 : m ≤ 65535
      · rcases hc with rfl | rfl
        · have X := Lib.hid (show true = Px.formatV 1 m by simp [Px.formatV, h1, h2])
          go_enter Tryz.func127, Tryz.ntmps127
          go_wp2
          go_ret
          exact ⟨ret_b X.out, (Below.refl _ _).alloc (Nat.le_refl _) _⟩
        · have X := Lib.hid (show true = Px.formatV 3 m by simp [Px.formatV, h1, h2])
          go_enter Tryz.func127, Tryz.ntmps127
          go_wp2
          go_ret
          exact ⟨ret_b X.out, (Below.refl _ _).alloc (Nat.le_refl _) _⟩
      · rcases hc with rfl | rfl
        · have X := Lib.hid (show false = Px.formatV 1 m by simp [Px.formatV, h2])
          go_enter Tryz.func127, Tryz.ntmps127
          go_wp2
          go_ret
          exact ⟨ret_b X.out, (Below.refl _ _).alloc (Nat.le_refl _) _⟩
        · have X := Lib.hid (show false = Px.formatV 3 m by simp [Px.formatV, h2])
          go_enter Tryz.func127, Tryz.ntmps127
          go_wp2
          go_ret
          exact ⟨ret_b X.out, (Below.refl _ _).alloc (Nat.le_refl _) _⟩
    · rcases hc with rfl | rfl
      · have X := Lib.hid (show false = Px.formatV 1 m by simp [Px.formatV, h1])
        go_enter Tryz.func127, Tryz.ntmps127
        go_wp2
        go_ret
        exact ⟨ret_b X.out, (Below.refl _ _).alloc (Nat.le_refl _) _⟩
      · have X := Lib.hid (show false = Px.formatV 3 m by simp [Px.formatV, h1])
        go_enter Tryz.func127, Tryz.ntmps127
        go_wp2
        go_ret
        exact ⟨ret_b X.out, (Below.refl _ _).alloc (Nat.le_refl _) _⟩
  · have k1 : (c == 1) = false := by simp; omega
    have k3 : (c == 3) = false := by simp; omega
    clear hc
    have X := Lib.hid (show false = Px.formatV c m by simp only [Px.formatV, k1, k3]; rfl)
    go_enter Tryz.func127, Tryz.ntmps127
    go_wp2
    go_ret
    exact ⟨ret_b X.out, (Below.refl _ _).alloc (Nat.le_refl _) _⟩

theorem refFormat_any (c m : Int) (w : World) :
    Calls Tryz.prog 109 #[.agg #[.int .i64 c, .int .i64 m]] w fun e w' => e = .returned (.bool (Px.formatV c m)) ∧ Below w.heap.size w w' := by
  by_cases hc : c = 1 ∨ c = 3
  · by_cases h1 : 1 ≤ m
    · by_cases h2 : m < 65536
      · rcases hc with rfl | rfl
        · have X := Lib.hid (show true = Px.formatV 1 m by simp [Px.formatV, h1]; omega)
          go_enter Tryz.func109, Tryz.ntmps109
          go_wp2
          go_ret
          exact ⟨ret_b X.out, (Below.refl _ _).alloc (Nat.le_refl _) _⟩
        · have X := Lib.hid (show true = Px.formatV 3 m by simp [Px.formatV, h1]; omega)
          go_enter Tryz.func109, Tryz.ntmps109
          go_wp2
          go_ret
          exact ⟨ret_b X.out, (Below.refl _ _).alloc (Nat.le_refl _) _⟩
      · rcases hc with rfl | rfl
        · have X := Lib.hid (show false = Px.formatV 1 m by simp [Px.formatV]; omega)
          go_enter Tryz.func109, Tryz.ntmps109
          go_wp2
          go_ret
          exact ⟨ret_b X.out, (Below.refl _ _).alloc (Nat.le_refl _) _⟩
        · have X := Lib.hid (show false = Px.formatV 3 m by simp [Px.formatV]; omega)
          go_enter Tryz.func109, Tryz.ntmps109
          go_wp2
          go_ret
          exact ⟨ret_b X.out, (Below.refl _ _).alloc (Nat.le_refl _) _⟩
    · rcases hc with rfl | rfl
      · have X := Lib.hid (show false = Px.formatV 1 m by simp [Px.formatV, h1])
        go_enter Tryz.func109, Tryz.ntmps109
        go_wp2
        go_ret
        exact ⟨ret_b X.out, (Below.refl _ _).alloc (Nat.le_refl _) _⟩
      · have X := Lib.hid (show false = Px.formatV 3 m by simp [Px.formatV, h1])
        go_enter Tryz.func109, Tryz.ntmps109
        go_wp2
        go_ret
        exact ⟨ret_b X.out, (Below.refl _ _).alloc (Nat.le_refl _) _⟩
  · have k1 : (c == 1) = false := by simp; omega
    have k3 : (c == 3) = false := by simp; omega
    clear hc
    have X := Lib.hid (show false = Px.formatV c m by simp only [Px.formatV, k1, k3]; rfl)
    go_enter Tryz.func109, Tryz.ntmps109
    go_wp2
    go_ret
    exact ⟨ret_b X.out, (Below.refl _ _).alloc (Nat.le_refl _) _⟩


theorem max3 (blk off cap : Nat) (a b c : Int) (w : World)
    (c0 : w.cell? ⟨blk, off, none⟩ = some (.int .i64 a)) (c1 : w.cell? ⟨blk, off + 1, none⟩ = some (.int .i64 b)) (c2 : w.cell? ⟨blk, off + 2, none⟩ = some (.int .i64 c)) :
    Calls Tryz.prog 128 #[.slice (some ⟨blk, off, none⟩) 3 cap] w fun e w' => e = .returned (.int .i64 (max (max a b) c)) ∧ w = w' := by
  go_enter Tryz.func128, Tryz.ntmps128
  go_wp2
  go_rounds 3
  all_goals (go_ret; exact ⟨ret_i (by omega), rfl⟩)

theorem max3M (blk off cap : Nat) (a b c M : Int) (hM : Hid (max (max a b) c = M)) (w : World)
    (c0 : w.cell? ⟨blk, off, none⟩ = some (.int .i64 a)) (c1 : w.cell? ⟨blk, off + 1, none⟩ = some (.int .i64 b)) (c2 : w.cell? ⟨blk, off + 2, none⟩ = some (.int .i64 c)) :
    Calls Tryz.prog 128 #[.slice (some ⟨blk, off, none⟩) 3 cap] w fun e w' => e = .returned (.int .i64 M) ∧ w = w' :=
  (max3 blk off cap a b c w c0 c1 c2).mono fun _ _ h => by rw [← hM.out]; exact h

theorem max1 (blk off cap : Nat) (a : Int) (w : World)
    (c0 : w.cell? ⟨blk, off, none⟩ = some (.int .i64 a)) :
    Calls Tryz.prog 128 #[.slice (some ⟨blk, off, none⟩) 1 cap] w fun e w' => e = .returned (.int .i64 a) ∧ w = w' := by
  go_enter Tryz.func128, Tryz.ntmps128
  go_wp2
  go_rounds 1
  go_ret
  exact ⟨rfl, rfl⟩


theorem box_below (w : World) (cs : Array Value) (t : TypeId) {w1 : World} (hb1 : Below (w.alloc (.cells cs t)).heap.size (w.alloc (.cells cs t)) w1) : Below w.heap.size w w1 :=
  ((Below.refl _ _).alloc (Nat.le_refl _) _).trans (hb1.mono (by simp))

theorem fits3_no (p c m a b d : Int) (h : Px.Is3 p a b d) (k : ((3 : Int) == c) = false) (w : World) :
    Calls Tryz.prog 82 #[.int .u64 p, .agg #[.int .i64 c, .int .i64 m]] w fun e w' => e = .returned (.bool false) ∧ Below w.heap.size w w' := by
  go_enter Tryz.func82, Tryz.ntmps82
  go_wp2_with (go_at_call 126; refine (split3 p a b d h _).mono ?_; rintro e w1 ⟨rfl, hb1⟩)
  have d0 : w1.cell? ⟨w.heap.size, 0, none⟩ = some (.int .i64 c) := cell_later hb1 (by simp [go_sem])
  have d1 : w1.cell? ⟨w.heap.size, 1, none⟩ = some (.int .i64 m) := cell_later hb1 (by simp [go_sem])
  have hz : w.heap.size < w1.heap.size := by have := hb1.size; simp at this; omega
  go_quiet (fail)
  go_wp2
  go_ret
  exact ⟨rfl, below_drewN ((box_below w _ _ hb1).alloc (Nat.le_of_lt hz) _) _⟩
theorem fits1_no (p c m a : Int) (h : Px.Is1 p a) (k : ((1 : Int) == c) = false) (w : World) :
    Calls Tryz.prog 82 #[.int .u64 p, .agg #[.int .i64 c, .int .i64 m]] w fun e w' => e = .returned (.bool false) ∧ Below w.heap.size w w' := by
  go_enter Tryz.func82, Tryz.ntmps82
  go_wp2_with (go_at_call 126; refine (split1 p a h _).mono ?_; rintro e w1 ⟨rfl, hb1⟩)
  have d0 : w1.cell? ⟨w.heap.size, 0, none⟩ = some (.int .i64 c) := cell_later hb1 (by simp [go_sem])
  have d1 : w1.cell? ⟨w.heap.size, 1, none⟩ = some (.int .i64 m) := cell_later hb1 (by simp [go_sem])
  have hz : w.heap.size < w1.heap.size := by have := hb1.size; simp at this; omega
  go_quiet (fail)
  go_wp2
  go_ret
  exact ⟨rfl, below_drewN ((box_below w _ _ hb1).alloc (Nat.le_of_lt hz) _) _⟩
theorem fits0_no (p c m : Int) (hU : Px.U p) (h : Px.Is0 p) (k : ((0 : Int) == c) = false) (w : World) :
    Calls Tryz.prog 82 #[.int .u64 p, .agg #[.int .i64 c, .int .i64 m]] w fun e w' => e = .returned (.bool false) ∧ Below w.heap.size w w' := by
  go_enter Tryz.func82, Tryz.ntmps82
  go_wp2_with (go_at_call 126; refine (split0 p hU h _).mono ?_; rintro e w1 ⟨rfl, hb1⟩)
  have d0 : w1.cell? ⟨w.heap.size, 0, none⟩ = some (.int .i64 c) := cell_later hb1 (by simp [go_sem])
  have d1 : w1.cell? ⟨w.heap.size, 1, none⟩ = some (.int .i64 m) := cell_later hb1 (by simp [go_sem])
  have hz : w.heap.size < w1.heap.size := by have := hb1.size; simp at this; omega
  go_quiet (fail)
  go_wp2
  go_ret
  exact ⟨rfl, below_drewN ((box_below w _ _ hb1).alloc (Nat.le_of_lt hz) _) _⟩
end Pq
end Go.Proofs.YtmnhiagppicegaaGreat

/- Unpack at numbers that are pixels of three samples, of one, and at those that are none. Condition: numbers fit their kinds. -/
namespace Go.Proofs.YtmnhiagppicegaaGreat
open Go.RowKit
set_option linter.unusedVariables false
namespace Pq
/-- three, one, no integers in memory of the call's own -/
def Own3 (base : Nat) (w' : World) (g : Nat) (a b c : Int) : Prop :=
  base ≤ g ∧ g < w'.heap.size ∧ w'.cell? ⟨g, 0, none⟩ = some (.int .i64 a) ∧ w'.cell? ⟨g, 1, none⟩ = some (.int .i64 b) ∧ w'.cell? ⟨g, 2, none⟩ = some (.int .i64 c) ∧
    w'.frozen? ⟨g, 0, none⟩ = false ∧ w'.frozen? ⟨g, 1, none⟩ = false ∧ w'.frozen? ⟨g, 2, none⟩ = false
def Own1 (base : Nat) (w' : World) (g : Nat) (a : Int) : Prop :=
  base ≤ g ∧ g < w'.heap.size ∧ w'.cell? ⟨g, 0, none⟩ = some (.int .i64 a) ∧ w'.frozen? ⟨g, 0, none⟩ = false
theorem own3 {base : Nat} {w : World} {ad : Option Addr} {a b c : Int} (h : Own base w ad [a, b, c]) : ∃ g, ad = some ⟨g, 0, none⟩ ∧ Own3 base w g a b c := by
  rcases h with h | ⟨g, h1, h2, h3, h4, h5⟩
  · cases h
  · exact ⟨g, h1, h2, h3, h4 0 (by simp), h4 1 (by simp), h4 2 (by simp), h5 0 (by simp), h5 1 (by simp), h5 2 (by simp)⟩
theorem own1 {base : Nat} {w : World} {ad : Option Addr} {a : Int} (h : Own base w ad [a]) : ∃ g, ad = some ⟨g, 0, none⟩ ∧ Own1 base w g a := by
  rcases h with h | ⟨g, h1, h2, h3, h4, h5⟩
  · cases h
  · exact ⟨g, h1, h2, h3, h4 0 (by simp), h5 0 (by simp)⟩
theorem isU3 {p a b c : Int} (h : Px.Is3 p a b c) : Px.U p := by unfold Px.Is3 at h; unfold Px.U; omega
theorem isU1 {p a : Int} (h : Px.Is1 p a) : Px.U p := by unfold Px.Is1 at h; unfold Px.U; omega
theorem refUnpack3 (p a b c : Int) (h : Px.Is3 p a b c) (w : World) :
    Calls Tryz.prog 64 #[.int .u64 p] w fun e w' => ∃ g cap, e = .returned (.slice (some ⟨g, 0, none⟩) 3 cap) ∧ Own3 w.heap.size w' g a b c ∧ Below w.heap.size w w' := by
  refine (refUnpack_any p (isU3 h) w).mono fun e w' ⟨ad, cap, he, ho, hb⟩ => ?_
  rw [Px.smp3 h] at he ho
  obtain ⟨g, rfl, ho3⟩ := own3 ho
  exact ⟨g, cap, he, ho3, hb⟩
theorem refUnpack1 (p a : Int) (h : Px.Is1 p a) (w : World) :
    Calls Tryz.prog 64 #[.int .u64 p] w fun e w' => ∃ g cap, e = .returned (.slice (some ⟨g, 0, none⟩) 1 cap) ∧ Own1 w.heap.size w' g a ∧ Below w.heap.size w w' := by
  refine (refUnpack_any p (isU1 h) w).mono fun e w' ⟨ad, cap, he, ho, hb⟩ => ?_
  rw [Px.smp1 h] at he ho
  obtain ⟨g, rfl, ho1⟩ := own1 ho
  exact ⟨g, cap, he, ho1, hb⟩
theorem refUnpack0 (p : Int) (hU : Px.U p) (h : Px.Is0 p) (w : World) :
    Calls Tryz.prog 64 #[.int .u64 p] w fun e w' => ∃ ad cap, e = .returned (.slice ad 0 cap) ∧ Below w.heap.size w w' := by
  refine (refUnpack_any p hU w).mono fun e w' ⟨ad, cap, he, ho, hb⟩ => ?_
  rw [Px.smp0 h] at he
  exact ⟨ad, cap, he, hb⟩
end Pq
end Go.Proofs.YtmnhiagppicegaaGreat

/- A reader of a number is told a byte, by the code and by the document, as one plain function; a text's first bytes. Condition: its greatest number fits. -/
namespace Go.Proofs.YtmnhiagppicegaaGreat
open Go.RowKit
set_option linter.unusedVariables false

def nxt (k b : Nat) : Value := if k = 0 then nxA b else if k = 1 then nxR b else if k = 2 then nxD b else nxB b
/-- a reader in the block b is where s says -/
def RdS (w : World) (b : Nat) (m : Int) (s : Tk.S) : Prop :=
  Tk.Good m s ∧ ∃ v f x, RdC w b m v s.bg (Tk.st s) f x ∧ (s.k ≤ 4 → v = s.n) ∧ (s.k ≤ 3 → x = nxt s.k b) ∧ (s.k = 5 → f = s.e)
theorem RdS.lt {w : World} {b : Nat} {m : Int} {s : Tk.S} (h : RdS w b m s) : b < w.heap.size := by obtain ⟨_, v, f, x, h1, _⟩ := h; exact h1.lt
theorem RdS.kept {w w' : World} {row : Option Nat} {b : Nat} {m : Int} {s : Tk.S} (h : RdS w b m s) (hg : w.grownBy w' row) (hne : some b ≠ row) : RdS w' b m s := by
  obtain ⟨hG, v, f, x, h1, h2⟩ := h; exact ⟨hG, v, f, x, h1.kept hg hne, h2⟩
theorem RdS.later {w w' : World} {b : Nat} {m : Int} {s : Tk.S} (h : RdS w b m s) (hb : Below w.heap.size w w') : RdS w' b m s := by
  obtain ⟨hG, v, f, x, h1, h2⟩ := h; exact ⟨hG, v, f, x, h1.later hb, h2⟩
theorem tokNew_s (m : Int) (m0 : 0 ≤ m) (w : World) :
    Calls Tryz.prog 209 #[.int .i64 m] w fun e w' => e = .returned (.pointer (some ⟨w.heap.size, 0, none⟩)) ∧ RdS w' w.heap.size m Tk.new ∧ Below w.heap.size w w' := by
  refine (tokNew_any m w).mono ?_
  rintro e w' ⟨rfl, h, hb⟩
  exact ⟨rfl, ⟨Tk.good_new m0, 0, 0, _, h, fun _ => rfl, fun _ => rfl, fun h => absurd h (by decide)⟩, hb⟩
def PutR (w : World) (b : Nat) (m : Int) (s : Tk.S) (e : Ending) (w' : World) : Prop :=
  e = .returned (.int .i64 (Tk.st s)) ∧ RdS w' b m s ∧ w.grownBy w' (some b)
theorem enA : ∀ args w, (callFunc 215 args).run Tryz.prog w = .ok (.enter 215 args) w := enters_of Tryz.func215 (by kernel_rfl) rfl
theorem enR : ∀ args w, (callFunc 216 args).run Tryz.prog w = .ok (.enter 216 args) w := enters_of Tryz.func216 (by kernel_rfl) rfl
theorem enD : ∀ args w, (callFunc 217 args).run Tryz.prog w = .ok (.enter 217 args) w := enters_of Tryz.func217 (by kernel_rfl) rfl
theorem enB : ∀ args w, (callFunc 220 args).run Tryz.prog w = .ok (.enter 220 args) w := enters_of Tryz.func220 (by kernel_rfl) rfl
/-- both what the code and what the document do with a byte, told together -/
theorem put_both {m : Int} {s : Tk.S} (hG : Tk.Good m s) (m1 : m ≤ 4611686018427387903) (c : Int) (c0 : 0 ≤ c) (c1 : c ≤ 255) :
    (∀ w b, RdS w b m s → Calls Tryz.prog 210 #[.pointer (some ⟨b, 0, none⟩), .int .u8 c] w (PutR w b m (Tk.put m s c))) ∧
    (∀ w, Calls Tryz.prog 115 #[agS s.k s.n m s.e, .int .u8 c] w (RpR w (Tk.put m s c).k (Tk.put m s c).n m (Tk.put m s c).e (Tk.st (Tk.put m s c)))) := by
  have hG' := Tk.good_put hG c
  generalize ht : Tk.put m s c = t at hG' ⊢
  obtain ⟨k, n, e, bg⟩ := s
  have H := hG
  obtain ⟨h1, h2, h3, h4, h5, h6, h7, h8⟩ := H
  simp only at h1 h2 h3 h4 h5 h6 h7 h8
  have L10 : Tk.line 10 = true := by decide
  have L13 : Tk.line 13 = true := by decide
  have fin : ∀ (w : World) (b : Nat) (v : Int) (f : Int) (x : Value), (t.k ≤ 4 → v = t.n) → (t.k ≤ 3 → x = nxt t.k b) → (t.k = 5 → f = t.e) → ∀ e' w', (e' = Ending.returned (.int .i64 (Tk.st t)) ∧ RdC w' b m v t.bg (Tk.st t) f x ∧ w.grownBy w' (some b)) → PutR w b m t e' w' := fun w b v f x a1 a2 a3 e' w' hh => ⟨hh.1, ⟨hG', v, f, x, hh.2.1, a1, a2, a3⟩, hh.2.2⟩
  have hk : k = 0 ∨ k = 1 ∨ k = 2 ∨ k = 3 ∨ k = 4 ∨ k = 5 := by omega
  have nl : Tk.line c = false → (c == 10) = false ∧ (c == 13) = false := fun h => by unfold Tk.line at h; simp at h; simp; exact h
  have yl : Tk.line c = true → c = 10 ∨ c = 13 := fun h => by unfold Tk.line at h; simpa using h
  rcases hk with rfl | rfl | rfl | rfl | rfl | rfl
  · -- ahead
    obtain ⟨rfl, rfl⟩ := h7 (by omega)
    have h9 := h4 (by omega); subst h9
    have open' : ∀ w b, RdS w b m ⟨0, 0, 9, false⟩ → ∃ f, RdC w b m 0 false 0 f (nxA b) := fun w b hr => by
      obtain ⟨_, v, f, x, r1, r2, r3, _⟩ := hr
      have := r2 (by simp); simp only at this; subst this
      have := r3 (by simp); subst this
      exact ⟨f, r1⟩
    by_cases hc : c = 35
    · subst hc
      have ht' : t = ⟨1, 0, 9, false⟩ := by rw [← ht]; rfl
      subst ht'
      refine ⟨fun w b hr => ?_, fun w => rp_a35 0 m 9 w⟩
      obtain ⟨f, hr⟩ := open' w b hr
      exact (put_next w b _ m 0 false f 35 m 0 false f (nxR b) 0 enA hr (ahead_rem w b m 0 false f 35 c0 c1 rfl hr)).mono (fin w b 0 f (nxR b) (fun _ => rfl) (fun _ => rfl) (fun h => absurd h (by simp)))
    by_cases hb : Tk.blank c = true
    · have ht' : t = ⟨0, 0, 9, false⟩ := by rw [← ht]; simp [Tk.put, hc, hb]
      subst ht'
      refine ⟨fun w b hr => ?_, fun w => ?_⟩
      · obtain ⟨f, hr⟩ := open' w b hr
        exact (put_next w b _ m 0 false f c m 0 false f (nxA b) 0 enA hr (ahead_blank w b m 0 false f c c0 c1 hb hr)).mono (fin w b 0 f (nxA b) (fun _ => rfl) (fun _ => rfl) (fun h => absurd h (by simp)))
      · by_cases hl : Tk.line c = true
        · rcases yl hl with rfl | rfl
          · exact rp_a10 0 m 9 w
          · exact rp_a13 0 m 9 w
        · obtain ⟨a1, a2⟩ := nl (by simpa using hl)
          exact rp_a_blank 0 m 9 c c0 c1 a1 a2 (by simpa using hc) hb w
    have hb' : Tk.blank c = false := by simpa using hb
    have hnl : Tk.line c = false := by
      cases e : Tk.line c with
      | false => rfl
      | true => rcases yl e with rfl | rfl <;> exact absurd hb' (by decide)
    obtain ⟨a1, a2⟩ := nl hnl
    obtain ⟨p, hp⟩ : ∃ p, Nu.stepV 0 c m = p := ⟨_, rfl⟩
    obtain ⟨v, er⟩ := p
    by_cases he : er = 0
    · subst he
      have ht' : t = ⟨2, v, 9, true⟩ := by rw [← ht]; simp [Tk.put, hc, hb', hp]
      subst ht'
      refine ⟨fun w b hr => ?_, fun w => rp_a_yes 0 m 9 c c0 c1 a1 a2 (by simpa using hc) hb' h2 h3 m1 v hp w⟩
      obtain ⟨f, hr⟩ := open' w b hr
      exact (put_next w b _ m 0 false f c m v true f (nxD b) 0 enA hr (ahead_yes w b m 0 false f c c0 c1 hb' hc h2 h3 m1 v hp hr)).mono (fin w b v f (nxD b) (fun _ => rfl) (fun _ => rfl) (fun h => absurd h (by simp)))
    · have ht' : t = ⟨5, 0, er, false⟩ := by rw [← ht]; simp [Tk.put, hc, hb', hp, he]
      subst ht'
      refine ⟨fun w b hr => ?_, fun w => rp_a_no 0 m 9 c c0 c1 a1 a2 (by simpa using hc) hb' h2 h3 m1 v er hp he w⟩
      obtain ⟨f, hr⟩ := open' w b hr
      exact (put_next w b _ m 0 false f c m 0 false er (nxD b) 2 enA hr (ahead_no w b m 0 false f c c0 c1 hb' hc h2 h3 m1 v er hp he hr)).mono (fin w b 0 er (nxD b) (fun _ => rfl) (fun h => absurd h (by simp)) (fun _ => rfl))
  · -- a remark ahead
    obtain ⟨rfl, rfl⟩ := h7 (by omega)
    have h9 := h4 (by omega); subst h9
    have open' : ∀ w b, RdS w b m ⟨1, 0, 9, false⟩ → ∃ f, RdC w b m 0 false 0 f (nxR b) := fun w b hr => by
      obtain ⟨_, v, f, x, r1, r2, r3, _⟩ := hr
      have := r2 (by simp); simp only at this; subst this
      have := r3 (by simp); subst this
      exact ⟨f, r1⟩
    by_cases hl : Tk.line c = true
    · have ht' : t = ⟨0, 0, 9, false⟩ := by rw [← ht]; simp [Tk.put, hl]
      subst ht'
      refine ⟨fun w b hr => ?_, fun w => ?_⟩
      · obtain ⟨f, hr⟩ := open' w b hr
        exact (put_next w b _ m 0 false f c m 0 false f (nxA b) 0 enR hr (remA_line w b m 0 false f c c0 c1 hl hr)).mono (fin w b 0 f (nxA b) (fun _ => rfl) (fun _ => rfl) (fun h => absurd h (by simp)))
      · rcases yl hl with rfl | rfl
        · exact rp_remA10 0 m 9 w
        · exact rp_remA13 0 m 9 w
    · have hl' : Tk.line c = false := by simpa using hl
      have ht' : t = ⟨1, 0, 9, false⟩ := by rw [← ht]; simp [Tk.put, hl']
      subst ht'
      obtain ⟨a1, a2⟩ := nl hl'
      refine ⟨fun w b hr => ?_, fun w => rp_remA_not 0 m 9 c c0 c1 a1 a2 w⟩
      obtain ⟨f, hr⟩ := open' w b hr
      exact (put_next w b _ m 0 false f c m 0 false f (nxR b) 0 enR hr (remA_not w b m 0 false f c c0 c1 hl' hr)).mono (fin w b 0 f (nxR b) (fun _ => rfl) (fun _ => rfl) (fun h => absurd h (by simp)))
  · -- digits
    have hbg := h8 (by omega) (by omega); subst hbg
    have h9 := h4 (by omega); subst h9
    have open' : ∀ w b, RdS w b m ⟨2, n, 9, true⟩ → ∃ f, RdC w b m n true 0 f (nxD b) := fun w b hr => by
      obtain ⟨_, v, f, x, r1, r2, r3, _⟩ := hr
      have := r2 (by simp); simp only at this; subst this
      have := r3 (by simp); subst this
      exact ⟨f, r1⟩
    by_cases hc : c = 35
    · subst hc
      have ht' : t = ⟨3, n, 9, true⟩ := by rw [← ht]; rfl
      subst ht'
      refine ⟨fun w b hr => ?_, fun w => rp_d35 n m 9 w⟩
      obtain ⟨f, hr⟩ := open' w b hr
      exact (put_next w b _ m n true f 35 m n true f (nxB b) 0 enD hr (digit_rem w b m n true f 35 c0 c1 rfl hr)).mono (fin w b n f (nxB b) (fun _ => rfl) (fun _ => rfl) (fun h => absurd h (by simp)))
    by_cases hb : Tk.blank c = true
    · have ht' : t = ⟨4, n, 0, true⟩ := by rw [← ht]; simp [Tk.put, hc, hb]
      subst ht'
      refine ⟨fun w b hr => ?_, fun w => ?_⟩
      · obtain ⟨f, hr⟩ := open' w b hr
        exact (put_next w b _ m n true f c m n true f (nxD b) 1 enD hr (digit_blank w b m n true f c c0 c1 hb hr)).mono (fin w b n f (nxD b) (fun _ => rfl) (fun h => absurd h (by simp)) (fun h => absurd h (by simp)))
      · by_cases hl : Tk.line c = true
        · rcases yl hl with rfl | rfl
          · exact rp_d10 n m 9 w
          · exact rp_d13 n m 9 w
        · obtain ⟨a1, a2⟩ := nl (by simpa using hl)
          exact rp_d_blank n m 9 c c0 c1 a1 a2 (by simpa using hc) hb w
    have hb' : Tk.blank c = false := by simpa using hb
    have hnl : Tk.line c = false := by
      cases e : Tk.line c with
      | false => rfl
      | true => rcases yl e with rfl | rfl <;> exact absurd hb' (by decide)
    obtain ⟨a1, a2⟩ := nl hnl
    obtain ⟨p, hp⟩ : ∃ p, Nu.stepV n c m = p := ⟨_, rfl⟩
    obtain ⟨v, er⟩ := p
    by_cases he : er = 0
    · subst he
      have ht' : t = ⟨2, v, 9, true⟩ := by rw [← ht]; simp [Tk.put, hc, hb', hp]
      subst ht'
      refine ⟨fun w b hr => ?_, fun w => rp_d_yes n m 9 c c0 c1 a1 a2 (by simpa using hc) hb' h2 h3 m1 v hp w⟩
      obtain ⟨f, hr⟩ := open' w b hr
      exact (put_next w b _ m n true f c m v true f (nxD b) 0 enD hr (digit_yes w b m n true f c c0 c1 hb' hc h2 h3 m1 v hp hr)).mono (fin w b v f (nxD b) (fun _ => rfl) (fun _ => rfl) (fun h => absurd h (by simp)))
    · have ht' : t = ⟨5, 0, er, true⟩ := by rw [← ht]; simp [Tk.put, hc, hb', hp, he]
      subst ht'
      refine ⟨fun w b hr => ?_, fun w => rp_d_no n m 9 c c0 c1 a1 a2 (by simpa using hc) hb' h2 h3 m1 v er hp he w⟩
      obtain ⟨f, hr⟩ := open' w b hr
      exact (put_next w b _ m n true f c m n true er (nxD b) 2 enD hr (digit_no w b m n true f c c0 c1 hb' hc h2 h3 m1 v er hp he hr)).mono (fin w b n er (nxD b) (fun h => absurd h (by simp)) (fun h => absurd h (by simp)) (fun _ => rfl))
  · -- a remark behind
    have hbg := h8 (by omega) (by omega); subst hbg
    have h9 := h4 (by omega); subst h9
    have open' : ∀ w b, RdS w b m ⟨3, n, 9, true⟩ → ∃ f, RdC w b m n true 0 f (nxB b) := fun w b hr => by
      obtain ⟨_, v, f, x, r1, r2, r3, _⟩ := hr
      have := r2 (by simp); simp only at this; subst this
      have := r3 (by simp); subst this
      exact ⟨f, r1⟩
    by_cases hl : Tk.line c = true
    · have ht' : t = ⟨4, n, 0, true⟩ := by rw [← ht]; simp [Tk.put, hl]
      subst ht'
      refine ⟨fun w b hr => ?_, fun w => ?_⟩
      · obtain ⟨f, hr⟩ := open' w b hr
        exact (put_next w b _ m n true f c m n true f (nxB b) 1 enB hr (remB_line w b m n true f c c0 c1 hl hr)).mono (fin w b n f (nxB b) (fun _ => rfl) (fun h => absurd h (by simp)) (fun h => absurd h (by simp)))
      · rcases yl hl with rfl | rfl
        · exact rp_remB10 n m 9 w
        · exact rp_remB13 n m 9 w
    · have hl' : Tk.line c = false := by simpa using hl
      have ht' : t = ⟨3, n, 9, true⟩ := by rw [← ht]; simp [Tk.put, hl']
      subst ht'
      obtain ⟨a1, a2⟩ := nl hl'
      refine ⟨fun w b hr => ?_, fun w => rp_remB_not n m 9 c c0 c1 a1 a2 w⟩
      obtain ⟨f, hr⟩ := open' w b hr
      exact (put_next w b _ m n true f c m n true f (nxB b) 0 enB hr (remB_not w b m n true f c c0 c1 hl' hr)).mono (fin w b n f (nxB b) (fun _ => rfl) (fun _ => rfl) (fun h => absurd h (by simp)))
  · -- over
    have ht' : t = ⟨4, n, e, bg⟩ := by rw [← ht]; rfl
    subst ht'
    refine ⟨fun w b hr => ?_, fun w => rp_over n m e c w⟩
    have hr' := hr
    obtain ⟨_, v, f, x, r1, _⟩ := hr
    refine (put_done w b m v bg f c 1 x (by decide) r1).mono ?_
    rintro e' w' ⟨rfl, rfl⟩
    exact ⟨rfl, hr', .refl _ _⟩
  · -- wrong
    have ht' : t = ⟨5, n, e, bg⟩ := by rw [← ht]; rfl
    subst ht'
    refine ⟨fun w b hr => ?_, fun w => rp_wrong n m e c w⟩
    have hr' := hr
    obtain ⟨_, v, f, x, r1, _⟩ := hr
    refine (put_done w b m v bg f c 2 x (by decide) r1).mono ?_
    rintro e' w' ⟨rfl, rfl⟩
    exact ⟨rfl, hr', .refl _ _⟩
end Go.Proofs.YtmnhiagppicegaaGreat

/- A reader of a head in a block of its own, over any memory: what it is made of; where a number may be at most, as a function made for it. No condition. -/
namespace Go.Proofs.YtmnhiagppicegaaGreat
open Go.RowKit
set_option linter.unusedVariables false

/-- the twelve cells of a reader of a head -/
def HdC (w : World) (b : Nat) (kd m0 m1 m2 v0 v1 v2 i : Int) (nv : Value) (t f : Int) (x : Value) : Prop :=
  w.heap[b]? = some (.cells #[.int .i64 kd, .int .i64 m0, .int .i64 m1, .int .i64 m2, .int .i64 v0, .int .i64 v1, .int .i64 v2, .int .i64 i, nv, .int .i64 t, .int .i64 f, x] 223 (0, 0))
section
variable {w w' : World} {b : Nat} {kd m0 m1 m2 v0 v1 v2 i : Int} {nv : Value} {t f : Int} {x : Value}
theorem HdC.lt (h : HdC w b kd m0 m1 m2 v0 v1 v2 i nv t f x) : b < w.heap.size := (Array.getElem?_eq_some_iff.1 h).1
theorem HdC.later (h : HdC w b kd m0 m1 m2 v0 v1 v2 i nv t f x) (hb : Below w.heap.size w w') : HdC w' b kd m0 m1 m2 v0 v1 v2 i nv t f x := (hb.block b h.lt).trans h
theorem HdC.kept {row : Option Nat} (h : HdC w b kd m0 m1 m2 v0 v1 v2 i nv t f x) (hg : w.grownBy w' row) (hne : some b ≠ row) : HdC w' b kd m0 m1 m2 v0 v1 v2 i nv t f x := (hg.block b h.lt hne).trans h
theorem HdC.sep {Z : Nat → Prop} (h : HdC w b kd m0 m1 m2 v0 v1 v2 i nv t f x) (hs : Sep Z w w') (hz : ¬ Z b) : HdC w' b kd m0 m1 m2 v0 v1 v2 i nv t f x := (hs.block b h.lt hz).trans h
theorem HdC.drewN (h : HdC w b kd m0 m1 m2 v0 v1 v2 i nv t f x) (k : Nat) : HdC (w.drewN k) b kd m0 m1 m2 v0 v1 v2 i nv t f x := h
theorem HdC.fr (h : HdC w b kd m0 m1 m2 v0 v1 v2 i nv t f x) (o : Nat) : w.frozen? ⟨b, o, none⟩ = false := by have h' : w.heap[b]? = _ := h; simp [World.frozen?, h']
theorem HdC.c0 (h : HdC w b kd m0 m1 m2 v0 v1 v2 i nv t f x) : w.cell? ⟨b, 0, none⟩ = some (.int .i64 kd) := by have h' : w.heap[b]? = _ := h; simp [World.cell?, h']
theorem HdC.c1 (h : HdC w b kd m0 m1 m2 v0 v1 v2 i nv t f x) : w.cell? ⟨b, 1, none⟩ = some (.int .i64 m0) := by have h' : w.heap[b]? = _ := h; simp [World.cell?, h']
theorem HdC.c2 (h : HdC w b kd m0 m1 m2 v0 v1 v2 i nv t f x) : w.cell? ⟨b, 2, none⟩ = some (.int .i64 m1) := by have h' : w.heap[b]? = _ := h; simp [World.cell?, h']
theorem HdC.c3 (h : HdC w b kd m0 m1 m2 v0 v1 v2 i nv t f x) : w.cell? ⟨b, 3, none⟩ = some (.int .i64 m2) := by have h' : w.heap[b]? = _ := h; simp [World.cell?, h']
theorem HdC.c4 (h : HdC w b kd m0 m1 m2 v0 v1 v2 i nv t f x) : w.cell? ⟨b, 4, none⟩ = some (.int .i64 v0) := by have h' : w.heap[b]? = _ := h; simp [World.cell?, h']
theorem HdC.c5 (h : HdC w b kd m0 m1 m2 v0 v1 v2 i nv t f x) : w.cell? ⟨b, 5, none⟩ = some (.int .i64 v1) := by have h' : w.heap[b]? = _ := h; simp [World.cell?, h']
theorem HdC.c6 (h : HdC w b kd m0 m1 m2 v0 v1 v2 i nv t f x) : w.cell? ⟨b, 6, none⟩ = some (.int .i64 v2) := by have h' : w.heap[b]? = _ := h; simp [World.cell?, h']
theorem HdC.c7 (h : HdC w b kd m0 m1 m2 v0 v1 v2 i nv t f x) : w.cell? ⟨b, 7, none⟩ = some (.int .i64 i) := by have h' : w.heap[b]? = _ := h; simp [World.cell?, h']
theorem HdC.c8 (h : HdC w b kd m0 m1 m2 v0 v1 v2 i nv t f x) : w.cell? ⟨b, 8, none⟩ = some (nv) := by have h' : w.heap[b]? = _ := h; simp [World.cell?, h']
theorem HdC.c9 (h : HdC w b kd m0 m1 m2 v0 v1 v2 i nv t f x) : w.cell? ⟨b, 9, none⟩ = some (.int .i64 t) := by have h' : w.heap[b]? = _ := h; simp [World.cell?, h']
theorem HdC.c10 (h : HdC w b kd m0 m1 m2 v0 v1 v2 i nv t f x) : w.cell? ⟨b, 10, none⟩ = some (.int .i64 f) := by have h' : w.heap[b]? = _ := h; simp [World.cell?, h']
theorem HdC.c11 (h : HdC w b kd m0 m1 m2 v0 v1 v2 i nv t f x) : w.cell? ⟨b, 11, none⟩ = some (x) := by have h' : w.heap[b]? = _ := h; simp [World.cell?, h']
theorem HdC.put0 (h : HdC w b kd m0 m1 m2 v0 v1 v2 i nv t f x) (y : Int) : HdC (w.setCell ⟨b, 0, none⟩ (.int .i64 y)) b y m0 m1 m2 v0 v1 v2 i nv t f x := by
  have h' : w.heap[b]? = _ := h
  simpa [HdC] using Go.heap_setCell_same w b 0 _ _ (.int .i64 y) h'
theorem HdC.put4 (h : HdC w b kd m0 m1 m2 v0 v1 v2 i nv t f x) (y : Int) : HdC (w.setCell ⟨b, 4, none⟩ (.int .i64 y)) b kd m0 m1 m2 y v1 v2 i nv t f x := by
  have h' : w.heap[b]? = _ := h
  simpa [HdC] using Go.heap_setCell_same w b 4 _ _ (.int .i64 y) h'
theorem HdC.put5 (h : HdC w b kd m0 m1 m2 v0 v1 v2 i nv t f x) (y : Int) : HdC (w.setCell ⟨b, 5, none⟩ (.int .i64 y)) b kd m0 m1 m2 v0 y v2 i nv t f x := by
  have h' : w.heap[b]? = _ := h
  simpa [HdC] using Go.heap_setCell_same w b 5 _ _ (.int .i64 y) h'
theorem HdC.put6 (h : HdC w b kd m0 m1 m2 v0 v1 v2 i nv t f x) (y : Int) : HdC (w.setCell ⟨b, 6, none⟩ (.int .i64 y)) b kd m0 m1 m2 v0 v1 y i nv t f x := by
  have h' : w.heap[b]? = _ := h
  simpa [HdC] using Go.heap_setCell_same w b 6 _ _ (.int .i64 y) h'
theorem HdC.put7 (h : HdC w b kd m0 m1 m2 v0 v1 v2 i nv t f x) (y : Int) : HdC (w.setCell ⟨b, 7, none⟩ (.int .i64 y)) b kd m0 m1 m2 v0 v1 v2 y nv t f x := by
  have h' : w.heap[b]? = _ := h
  simpa [HdC] using Go.heap_setCell_same w b 7 _ _ (.int .i64 y) h'
theorem HdC.put8 (h : HdC w b kd m0 m1 m2 v0 v1 v2 i nv t f x) (y : Value) : HdC (w.setCell ⟨b, 8, none⟩ (y)) b kd m0 m1 m2 v0 v1 v2 i y t f x := by
  have h' : w.heap[b]? = _ := h
  simpa [HdC] using Go.heap_setCell_same w b 8 _ _ (y) h'
theorem HdC.put9 (h : HdC w b kd m0 m1 m2 v0 v1 v2 i nv t f x) (y : Int) : HdC (w.setCell ⟨b, 9, none⟩ (.int .i64 y)) b kd m0 m1 m2 v0 v1 v2 i nv y f x := by
  have h' : w.heap[b]? = _ := h
  simpa [HdC] using Go.heap_setCell_same w b 9 _ _ (.int .i64 y) h'
theorem HdC.put10 (h : HdC w b kd m0 m1 m2 v0 v1 v2 i nv t f x) (y : Int) : HdC (w.setCell ⟨b, 10, none⟩ (.int .i64 y)) b kd m0 m1 m2 v0 v1 v2 i nv t y x := by
  have h' : w.heap[b]? = _ := h
  simpa [HdC] using Go.heap_setCell_same w b 10 _ _ (.int .i64 y) h'
theorem HdC.put11 (h : HdC w b kd m0 m1 m2 v0 v1 v2 i nv t f x) (y : Value) : HdC (w.setCell ⟨b, 11, none⟩ (y)) b kd m0 m1 m2 v0 v1 v2 i nv t f y := by
  have h' : w.heap[b]? = _ := h
  simpa [HdC] using Go.heap_setCell_same w b 11 _ _ (y) h'
end
def nxH1 (b : Nat) : Value := .func (.func 145) #[.pointer (some ⟨b, 0, none⟩)] #[]
theorem enH1 : ∀ args w, (callFunc 145 args).run Tryz.prog w = .ok (.enter 145 args) w := enters_of Tryz.func145 (by kernel_rfl) rfl
def nxH2 (b : Nat) : Value := .func (.func 175) #[.pointer (some ⟨b, 0, none⟩)] #[]
theorem enH2 : ∀ args w, (callFunc 175 args).run Tryz.prog w = .ok (.enter 175 args) w := enters_of Tryz.func175 (by kernel_rfl) rfl
def nxH3 (b : Nat) : Value := .func (.func 194) #[.pointer (some ⟨b, 0, none⟩)] #[]
theorem enH3 : ∀ args w, (callFunc 194 args).run Tryz.prog w = .ok (.enter 194 args) w := enters_of Tryz.func194 (by kernel_rfl) rfl
def nxHN (b : Nat) : Value := .func (.func 204) #[.pointer (some ⟨b, 0, none⟩)] #[]
theorem enHN : ∀ args w, (callFunc 204 args).run Tryz.prog w = .ok (.enter 204 args) w := enters_of Tryz.func204 (by kernel_rfl) rfl

/-- a function that brings a number to where it may be -/
def UpV (w : World) (v : Value) (m : Int) : Prop := ∃ b, v = .func (.func 167) #[] #[.pointer (some ⟨b, 0, none⟩)] ∧ w.cell? ⟨b, 0, none⟩ = some (.int .i64 m)
theorem UpV.later {w w' : World} {v : Value} {m : Int} (h : UpV w v m) (hb : Below w.heap.size w w') : UpV w' v m := by
  obtain ⟨b, h1, h2⟩ := h; exact ⟨b, h1, cell_later hb h2⟩
set_option maxHeartbeats 1000000 in
theorem upTo_any (m : Int) (w : World) :
    Calls Tryz.prog 132 #[.int .i64 m] w fun e w' => ∃ v, e = .returned v ∧ UpV w' v m ∧ Below w.heap.size w w' := by
  go_enter Tryz.func132, Tryz.ntmps132
  go_wp2
  go_ret
  exact ⟨_, rfl, ⟨_, rfl, by simp [go_sem]⟩, by go_grown⟩
set_option maxHeartbeats 1000000 in
theorem upTo1_any (n m : Int) (m1 : 1 ≤ m) (b : Nat) (w : World) (hc : w.cell? ⟨b, 0, none⟩ = some (.int .i64 m)) :
    Calls Tryz.prog 167 #[.int .i64 n, .pointer (some ⟨b, 0, none⟩)] w fun e w' => e = .returned (.int .i64 (Hd.lim n m)) ∧ w = w' := by
  by_cases h1 : n < 1
  · have hmm : min (max n 1) m = 1 := by omega
    have X := Lib.hid (show Hd.lim n m = 1 by unfold Hd.lim; rw [if_pos h1])
    have h2 : ¬ m < 1 := by omega
    go_enter Tryz.func167, Tryz.ntmps167
    go_wp2
    go_ret
    exact ⟨Ar.ret_i X.out.symm, rfl⟩
  by_cases h2 : m < n
  · have hmm : min (max n 1) m = m := by omega
    have X := Lib.hid (show Hd.lim n m = m by unfold Hd.lim; rw [if_neg h1, if_pos h2])
    go_enter Tryz.func167, Tryz.ntmps167
    go_wp2
    go_ret
    exact ⟨Ar.ret_i X.out.symm, rfl⟩
  · have hmm : min (max n 1) m = n := by omega
    have X := Lib.hid (show Hd.lim n m = n by unfold Hd.lim; rw [if_neg h1, if_neg h2])
    go_enter Tryz.func167, Tryz.ntmps167
    go_wp2
    go_ret
    exact ⟨Ar.ret_i X.out.symm, rfl⟩
end Go.Proofs.YtmnhiagppicegaaGreat

/- A reader of a number tells its number; what a reader's block leaves of a row. Condition: its greatest number fits. -/
namespace Go.Proofs.YtmnhiagppicegaaGreat
open Go.RowKit
set_option linter.unusedVariables false

theorem value_s {w : World} {b : Nat} {m : Int} {s : Tk.S} (h : RdS w b m s) :
    Calls Tryz.prog 211 #[.pointer (some ⟨b, 0, none⟩)] w fun e w' => e = .returned (.tuple #[.int .i64 (Tk.val s).1, .int .i64 (Tk.val s).2]) ∧ w.grownBy w' none := by
  obtain ⟨⟨h1, h2, h3, h4, h5, h6, h7, h8⟩, v, f, x, r1, r2, r3, r4⟩ := h
  obtain ⟨k, n, er, bg⟩ := s
  simp only at h1 h2 h3 h4 h5 h6 h7 h8 r2 r3 r4
  by_cases k4 : k = 4
  · subst k4
    have hv := r2 (by omega)
    have he := h5 rfl
    subst hv he
    have r1' : RdC w b m v bg 1 f x := r1
    have hc1 := r1'.c1
    have hc3 := r1'.c3
    clear r1 r1' r2 r3 r4 h1 h2 h3 h4 h5 h6 h7 h8
    go_enter Tryz.func211, Tryz.ntmps211
    go_wp2
    go_ret2
    exact ⟨rfl, .refl _ _⟩
  by_cases k5 : k = 5
  · subst k5
    have hf := r4 rfl
    have he : er ≠ 0 := by have := h6 rfl; omega
    subst hf
    have r1' : RdC w b m v bg 2 f x := r1
    have X : Hid (Tk.val ⟨5, n, f, bg⟩ = (0, f)) := by show _ = _; unfold Tk.val; exact if_neg he
    have hc4 := r1'.c4
    have hc3 := r1'.c3
    clear r1 r1' r2 r3 r4 h1 h2 h3 h4 h5 h6 h7 h8 he
    go_enter Tryz.func211, Tryz.ntmps211
    go_wp2_with (go_quiet (fail))
    go_ret2
    exact ⟨(by rw [X.out]; rfl), grown_drew _ _ _⟩
  · have he := h4 (by omega)
    subst he
    have hst : Tk.st ⟨k, n, 9, bg⟩ = 0 := by unfold Tk.st; simp [k4, k5]
    rw [hst] at r1
    have hc3 := r1.c3
    clear r1 r2 r3 r4 h1 h2 h3 h4 h5 h6 h7 h8 hst
    go_enter Tryz.func211, Tryz.ntmps211
    go_wp2
    go_ret2
    exact ⟨rfl, .refl _ _⟩
theorem RdS.not_row {w : World} {b : Nat} {m : Int} {s : Tk.S} (h : RdS w b m s) {e : TypeId} (hte : 283 ≠ e) {base size k : Nat} {v : Value} {xs : List Value} (hr : w.ownsRow base e size v k xs) : some b ≠ v.ownBlock := by
  obtain ⟨_, _, f, x, h1, _⟩ := h
  have h1' : w.heap[b]? = _ := h1
  rcases hr.2 with ⟨hv, _⟩ | ⟨j, cap, cur, hv, _, hj, _⟩
  · rw [hv]; simp [Value.ownBlock]
  · rw [hv]; intro e2
    have e2 : b = j := by simpa [Value.ownBlock] using e2
    subst e2
    rw [h1'] at hj
    injection hj with hj
    injection hj with _ ht _
    exact hte ht
end Go.Proofs.YtmnhiagppicegaaGreat

/- A reader of a head: its parts, over any memory. Condition: its limits are such as may be. -/
namespace Go.Proofs.YtmnhiagppicegaaGreat
open Go.RowKit
set_option linter.unusedVariables false

def nxP (p b : Nat) : Value := if p = 0 then nxH1 b else if p = 1 then nxH2 b else if p = 2 then nxH3 b else nxHN b
/-- a reader of a head in the block b, its number's reader in the block n, is where s says, its status T -/
def HdX (T : Int) (w : World) (b n : Nat) (l : Hd.L) (s : Hd.S) : Prop :=
  Hd.Good l s ∧ ∃ nv f x, HdC w b s.kd l.m0 l.m1 l.m2 s.v0 s.v1 s.v2 s.i nv T f x ∧ (s.p = 3 → nv = .pointer (some ⟨n, 0, none⟩) ∧ RdS w n (l.at s.i) s.t ∧ n ≠ b) ∧ (s.p ≤ 3 → x = nxP s.p b) ∧ (s.p = 5 → f = s.e)
def two (b n : Nat) : Nat → Prop := fun k => k = b ∨ k = n
/-- what a part of a reader hands back, and what its blocks hold then -/
def InR (w : World) (b n : Nat) (l : Hd.L) (s : Hd.S) (e : Ending) (w' : World) : Prop :=
  ∃ n', e = .returned (.int .i64 (Hd.st s)) ∧ HdX 0 w' b n' l s ∧ Sep (two b n) w w' ∧ (n' = n ∨ w.heap.size ≤ n')
theorem Sep.grown {Z : Nat → Prop} {w w' : World} {k : Nat} (hg : w.grownBy w' (some k)) (hz : Z k) : Sep Z w w' := ⟨hg.os, hg.tape, hg.output, hg.size, fun j hj hn => hg.block j hj (fun e => hn (by injection e with e; rw [e]; exact hz))⟩
theorem Sep.grownN {Z : Nat → Prop} {w w' : World} (hg : w.grownBy w' none) : Sep Z w w' := ⟨hg.os, hg.tape, hg.output, hg.size, fun j hj hn => hg.block j hj (by simp)⟩
theorem Sep.bel {Z : Nat → Prop} {w w' : World} (hb : Below w.heap.size w w') : Sep Z w w' := ⟨hb.os, hb.tape, hb.output, hb.size, fun j hj _ => hb.block j hj⟩
theorem HdX.lt {T : Int} {w : World} {b n : Nat} {l : Hd.L} {s : Hd.S} (h : HdX T w b n l s) : b < w.heap.size := by obtain ⟨_, nv, f, x, h1, _⟩ := h; exact h1.lt
theorem HdX.sep {T : Int} {w w' : World} {Z : Nat → Prop} {b n : Nat} {l : Hd.L} {s : Hd.S} (h : HdX T w b n l s) (hs : Sep Z w w') (hb : ¬ Z b) (hn : ¬ Z n) : HdX T w' b n l s := by
  obtain ⟨hG, nv, f, x, h1, h2, h3, h4⟩ := h
  refine ⟨hG, nv, f, x, h1.sep hs hb, fun hp => ?_, h3, h4⟩
  obtain ⟨a1, a2, a3⟩ := h2 hp
  refine ⟨a1, ?_, a3⟩
  obtain ⟨g, v, f', x', r1, r2⟩ := a2
  exact ⟨g, v, f', x', (hs.block n r1.lt hn).trans r1, r2⟩
theorem HdX.later {T : Int} {w w' : World} {b n : Nat} {l : Hd.L} {s : Hd.S} (h : HdX T w b n l s) (hb : Below w.heap.size w w') : HdX T w' b n l s :=
  h.sep (Z := fun _ => False) (.bel hb) (fun h => h) (fun h => h)
set_option maxHeartbeats 1000000 in
theorem hwrong_any (w : World) (b : Nat) (kd m0 m1 m2 v0 v1 v2 i : Int) (nv : Value) (t f : Int) (x : Value) (h : HdC w b kd m0 m1 m2 v0 v1 v2 i nv t f x) (e : Int) :
    Calls Tryz.prog 174 #[.pointer (some ⟨b, 0, none⟩), .int .i64 e] w fun r w' => r = .returned (.int .i64 2) ∧ HdC w' b kd m0 m1 m2 v0 v1 v2 i nv t e x ∧ w.grownBy w' (some b) := by
  have hc := h.c10
  have hf := h.fr 10
  go_enter Tryz.func174, Tryz.ntmps174
  go_wp2
  go_ret
  exact ⟨rfl, h.put10 _, grown_set _ _ _ _⟩
set_option maxHeartbeats 2000000 in
theorem hbegin0_any (w : World) (b : Nat) (kd m0 m1 m2 v0 v1 v2 : Int) (nv : Value) (t f : Int) (x : Value) (h : HdC w b kd m0 m1 m2 v0 v1 v2 0 nv t f x) (hm : 0 ≤ m0) :
    Calls Tryz.prog 203 #[.pointer (some ⟨b, 0, none⟩)] w fun r w' => r = .returned (.tuple #[]) ∧ HdC w' b kd m0 m1 m2 v0 v1 v2 0 (.pointer (some ⟨w.heap.size, 0, none⟩)) t f x ∧ RdS w' w.heap.size m0 Tk.new ∧ w.grownBy w' (some b) := by
  have hc7 := h.c7
  have hc := h.c1
  have hlt := h.lt
  have HT := Lib.hid (fun W => tokNew_s m0 hm W)
  clear hm
  go_enter Tryz.func203, Tryz.ntmps203
  go_wp2_with fail
  go_region_with (go_at_call 209; refine (HT.out _).mono ?_; rintro e w1 ⟨rfl, hR, hB⟩; have h2 : HdC w1 b kd m0 m1 m2 v0 v1 v2 0 nv t f x := (show HdC w.drew b kd m0 m1 m2 v0 v1 v2 0 nv t f x from h).later hB; have hd8 := h2.c8; have hf8 := h2.fr 8)
  all_goals
    go_wp2
    go_end0
    exact ⟨rfl, h2.put8 _, hR.kept (grown_set _ _ _ _) (by intro e; injection e with e; exact Nat.ne_of_lt hlt e.symm), ((show w.grownBy w.drew (some b) from grown_drew w 1 _).trans ⟨hB.os, hB.tape, hB.output, hB.size, fun k hk _ => hB.block k hk⟩).trans (grown_set _ _ _ _)⟩
set_option maxHeartbeats 2000000 in
theorem hbegin1_any (w : World) (b : Nat) (kd m0 m1 m2 v0 v1 v2 : Int) (nv : Value) (t f : Int) (x : Value) (h : HdC w b kd m0 m1 m2 v0 v1 v2 1 nv t f x) (hm : 0 ≤ m1) :
    Calls Tryz.prog 203 #[.pointer (some ⟨b, 0, none⟩)] w fun r w' => r = .returned (.tuple #[]) ∧ HdC w' b kd m0 m1 m2 v0 v1 v2 1 (.pointer (some ⟨w.heap.size, 0, none⟩)) t f x ∧ RdS w' w.heap.size m1 Tk.new ∧ w.grownBy w' (some b) := by
  have hc7 := h.c7
  have hc := h.c2
  have hlt := h.lt
  have HT := Lib.hid (fun W => tokNew_s m1 hm W)
  clear hm
  go_enter Tryz.func203, Tryz.ntmps203
  go_wp2_with fail
  go_region_with (go_at_call 209; refine (HT.out _).mono ?_; rintro e w1 ⟨rfl, hR, hB⟩; have h2 : HdC w1 b kd m0 m1 m2 v0 v1 v2 1 nv t f x := (show HdC w.drew b kd m0 m1 m2 v0 v1 v2 1 nv t f x from h).later hB; have hd8 := h2.c8; have hf8 := h2.fr 8)
  all_goals
    go_wp2
    go_end0
    exact ⟨rfl, h2.put8 _, hR.kept (grown_set _ _ _ _) (by intro e; injection e with e; exact Nat.ne_of_lt hlt e.symm), ((show w.grownBy w.drew (some b) from grown_drew w 1 _).trans ⟨hB.os, hB.tape, hB.output, hB.size, fun k hk _ => hB.block k hk⟩).trans (grown_set _ _ _ _)⟩
set_option maxHeartbeats 2000000 in
theorem hbegin2_any (w : World) (b : Nat) (kd m0 m1 m2 v0 v1 v2 : Int) (nv : Value) (t f : Int) (x : Value) (h : HdC w b kd m0 m1 m2 v0 v1 v2 2 nv t f x) (hm : 0 ≤ m2) :
    Calls Tryz.prog 203 #[.pointer (some ⟨b, 0, none⟩)] w fun r w' => r = .returned (.tuple #[]) ∧ HdC w' b kd m0 m1 m2 v0 v1 v2 2 (.pointer (some ⟨w.heap.size, 0, none⟩)) t f x ∧ RdS w' w.heap.size m2 Tk.new ∧ w.grownBy w' (some b) := by
  have hc7 := h.c7
  have hc := h.c3
  have hlt := h.lt
  have HT := Lib.hid (fun W => tokNew_s m2 hm W)
  clear hm
  go_enter Tryz.func203, Tryz.ntmps203
  go_wp2_with fail
  go_region_with (go_at_call 209; refine (HT.out _).mono ?_; rintro e w1 ⟨rfl, hR, hB⟩; have h2 : HdC w1 b kd m0 m1 m2 v0 v1 v2 2 nv t f x := (show HdC w.drew b kd m0 m1 m2 v0 v1 v2 2 nv t f x from h).later hB; have hd8 := h2.c8; have hf8 := h2.fr 8)
  all_goals
    go_wp2
    go_end0
    exact ⟨rfl, h2.put8 _, hR.kept (grown_set _ _ _ _) (by intro e; injection e with e; exact Nat.ne_of_lt hlt e.symm), ((show w.grownBy w.drew (some b) from grown_drew w 1 _).trans ⟨hB.os, hB.tape, hB.output, hB.size, fun k hk _ => hB.block k hk⟩).trans (grown_set _ _ _ _)⟩
end Go.Proofs.YtmnhiagppicegaaGreat

/- A reader of a head is told a byte of a number, over any memory. Condition: its limits are such as may be. -/
namespace Go.Proofs.YtmnhiagppicegaaGreat
open Go.RowKit
set_option linter.unusedVariables false

theorem Tk.val_over {m : Int} {t : Tk.S} (h : Tk.Good m t) (hk : t.k = 4) : Tk.val t = (t.n, 0) := by unfold Tk.val; rw [if_pos (h.2.2.2.2.1 hk)]
theorem Tk.val_wrong {m : Int} {t : Tk.S} (h : Tk.Good m t) (hk : t.k = 5) : Tk.val t = (0, t.e) := by
  have := h.2.2.2.2.2.1 hk
  unfold Tk.val; rw [if_neg (by omega)]
theorem Tk.st_over {t : Tk.S} (hk : t.k = 4) : Tk.st t = 1 := by unfold Tk.st; rw [if_pos hk]
theorem Tk.st_wrong {t : Tk.S} (hk : t.k = 5) : Tk.st t = 2 := by unfold Tk.st; rw [if_neg (by omega), if_pos hk]
theorem Tk.st_more {t : Tk.S} (hk : t.k ≤ 3) : Tk.st t = 0 := by unfold Tk.st; rw [if_neg (by omega), if_neg (by omega)]
theorem some_ne {a b : Nat} (h : a ≠ b) : some a ≠ some b := by intro e; injection e with e; exact h e
/-- told a byte with which its number goes on -/
def TokC (l : Hd.L) (s : Hd.S) (n : Nat) (c : Int) (t : Tk.S) (q : Int) : Prop :=
  ∀ W, RdS W n (l.at s.i) s.t → Calls Tryz.prog 210 #[.pointer (some ⟨n, 0, none⟩), .int .u8 c] W fun e w' => e = .returned (.int .i64 q) ∧ RdS w' n (l.at s.i) t ∧ W.grownBy w' (some n)
theorem tokC {l : Hd.L} {s : Hd.S} {n : Nat} {c : Int} {t : Tk.S} {q : Int} (hG : Tk.Good (l.at s.i) s.t) (hl : l.Ok) (c0 : 0 ≤ c) (c1 : c ≤ 255) (ht : Tk.put (l.at s.i) s.t c = t) (hq : Tk.st t = q) : TokC l s n c t q := by
  intro W hr
  have h := (put_both hG (by have := Hd.L.at_ok hl s.i; omega) c c0 c1).1 W n hr
  rw [ht] at h
  refine h.mono ?_
  rintro e w' ⟨h1, h2, h3⟩
  exact ⟨by rw [h1, hq], h2, h3⟩
set_option maxHeartbeats 2000000 in
theorem in_more {l : Hd.L} (hl : l.Ok) {s : Hd.S} (hG : Hd.Good l s) (hp : s.p = 3) (c : Int) (c0 : 0 ≤ c) (c1 : c ≤ 255) (t : Tk.S) (ht : Tk.put (l.at s.i) s.t c = t) (hk : t.k ≤ 3) (w : World) (b n : Nat) (h : HdX 0 w b n l s) :
    Calls Tryz.prog 204 #[.pointer (some ⟨b, 0, none⟩), .int .u8 c] w (InR w b n l (s.tok t)) := by
  have hG' := Hd.good_take hl (hG.2.2.2.2.1 (by omega) (by omega)) (hG.2.2.2.2.2.1 (by omega)) (Tk.good_put (hG.2.1 (by omega)).1 c)
  rw [ht, show Hd.take s t = s.tok t by unfold Hd.take; rw [if_neg (by omega), if_neg (by omega)]] at hG'
  obtain ⟨_, nv, f, x, h1, h2, h3, h4⟩ := h
  obtain ⟨rfl, hr, hne⟩ := h2 hp
  have hx := h3 (by omega)
  rw [hp] at hx
  have hc8 := h1.c8
  have HC := Lib.hid (tokC (n := n) (hG.2.1 (by omega)).1 hl c0 c1 ht (Tk.st_more hk))
  have H1 := Lib.hid h1
  have HR := Lib.hid hr
  have HG' := Lib.hid hG'
  have HX := Lib.hid hx
  clear h1 hr h2 h3 h4 hG hl ht hk hG' hx
  go_enter Tryz.func204, Tryz.ntmps204
  go_wp2_with (go_at_call 210; refine (HC.out _ HR.out).mono ?_; rintro e w1 ⟨rfl, hr, hg⟩; have HR1 := Lib.hid hr; have HG1 := Lib.hid hg; clear hr hg)
  go_ret
  exact ⟨n, rfl, ⟨HG'.out, _, f, x, H1.out.kept HG1.out (some_ne (Ne.symm hne)), fun _ => ⟨rfl, HR1.out, hne⟩, fun _ => HX.out, fun h => absurd h (by show ¬ (3 : Nat) = 5; decide)⟩, .grown HG1.out (.inr rfl), .inl rfl⟩
set_option maxHeartbeats 2000000 in
theorem in_wrong {l : Hd.L} (hl : l.Ok) {s : Hd.S} (hG : Hd.Good l s) (hp : s.p = 3) (c : Int) (c0 : 0 ≤ c) (c1 : c ≤ 255) (t : Tk.S) (ht : Tk.put (l.at s.i) s.t c = t) (hk : t.k = 5) (w : World) (b n : Nat) (h : HdX 0 w b n l s) :
    Calls Tryz.prog 204 #[.pointer (some ⟨b, 0, none⟩), .int .u8 c] w (InR w b n l (s.wrong t.e)) := by
  have hT := Tk.good_put (hG.2.1 (by omega)).1 c
  rw [ht] at hT
  have hG' : Hd.Good l (s.wrong t.e) := Hd.good_wrong (by have := hG.2.2.2.2.2.2.2; omega) (.inr (hT.2.2.2.2.2.1 hk))
  have hv := Tk.val_wrong hT hk
  have hz : (t.e != 0) = true := by have := hT.2.2.2.2.2.1 hk; simp; omega
  obtain ⟨_, nv, f, x, h1, h2, h3, h4⟩ := h
  obtain ⟨rfl, hr, hne⟩ := h2 hp
  have hc8 := h1.c8
  have HC := Lib.hid (tokC (n := n) (hG.2.1 (by omega)).1 hl c0 c1 ht (Tk.st_wrong hk))
  have HV : Hid (∀ W, RdS W n (l.at s.i) t → Calls Tryz.prog 211 #[.pointer (some ⟨n, 0, none⟩)] W fun e w' => e = .returned (.tuple #[.int .i64 0, .int .i64 t.e]) ∧ W.grownBy w' none) := fun W hr => (value_s hr).mono fun e w' hh => ⟨by rw [hh.1, hv], hh.2⟩
  have HW := Lib.hid hwrong_any
  have H1 := Lib.hid h1
  have HR := Lib.hid hr
  have HG' := Lib.hid hG'
  clear h1 hr h2 h3 h4 hG hl ht hk hG' hT hv
  obtain ⟨e, he⟩ : ∃ e, t.e = e := ⟨_, rfl⟩
  rw [he] at HV HG' hz ⊢
  go_enter Tryz.func204, Tryz.ntmps204
  go_wp2_with fail
  refine (HC.out _ HR.out).mono ?_
  rintro e1 w1 ⟨rfl, hr, hg⟩
  have HR1 := Lib.hid hr
  have HG1 := Lib.hid hg
  have h2 := H1.out.kept hg (some_ne (Ne.symm hne))
  have hd8 := h2.c8
  have H2 := Lib.hid h2
  clear hr hg h2
  go_wp2_with fail
  refine (HV.out _ HR1.out).mono ?_
  rintro e1 w2 ⟨rfl, hg⟩
  have HG2 := Lib.hid hg
  have H3 := Lib.hid (H2.out.kept hg (by simp))
  clear hg
  go_wp2_with fail
  refine (HW.out _ _ _ _ _ _ _ _ _ _ _ _ _ _ H3.out _).mono ?_
  rintro e1 w3 ⟨rfl, h3, hg⟩
  have HG3 := Lib.hid hg
  have H4 := Lib.hid h3
  clear h3 hg
  go_wp2
  go_ret
  exact ⟨n, rfl, ⟨HG'.out, _, e, x, H4.out, fun h => absurd h (by show ¬ (5 : Nat) = 3; decide), fun h => absurd h (by show ¬ (5 : Nat) ≤ 3; decide), fun _ => rfl⟩, ((Sep.grown HG1.out (.inr rfl)).trans (.grownN HG2.out)).trans (.grown HG3.out (.inl rfl)), .inl rfl⟩
set_option maxHeartbeats 2000000 in
theorem in_zero {l : Hd.L} (hl : l.Ok) {s : Hd.S} (hG : Hd.Good l s) (hp : s.p = 3) (c : Int) (c0 : 0 ≤ c) (c1 : c ≤ 255) (t : Tk.S) (ht : Tk.put (l.at s.i) s.t c = t) (hk : t.k = 4) (hn : t.n = 0) (w : World) (b n : Nat) (h : HdX 0 w b n l s) :
    Calls Tryz.prog 204 #[.pointer (some ⟨b, 0, none⟩), .int .u8 c] w (InR w b n l (s.wrong 4)) := by
  have hT := Tk.good_put (hG.2.1 (by omega)).1 c
  rw [ht] at hT
  have hG' : Hd.Good l (s.wrong 4) := Hd.good_wrong (by have := hG.2.2.2.2.2.2.2; omega) (.inr (.inr rfl))
  have hv := Tk.val_over hT hk
  rw [hn] at hv
  obtain ⟨_, nv, f, x, h1, h2, h3, h4⟩ := h
  obtain ⟨rfl, hr, hne⟩ := h2 hp
  have hc8 := h1.c8
  have HC := Lib.hid (tokC (n := n) (hG.2.1 (by omega)).1 hl c0 c1 ht (Tk.st_over hk))
  have HV : Hid (∀ W, RdS W n (l.at s.i) t → Calls Tryz.prog 211 #[.pointer (some ⟨n, 0, none⟩)] W fun e w' => e = .returned (.tuple #[.int .i64 0, .int .i64 0]) ∧ W.grownBy w' none) := fun W hr => (value_s hr).mono fun e w' hh => ⟨by rw [hh.1, hv], hh.2⟩
  have HW := Lib.hid hwrong_any
  have H1 := Lib.hid h1
  have HR := Lib.hid hr
  have HG' := Lib.hid hG'
  clear h1 hr h2 h3 h4 hG hl ht hk hG' hT hv hn
  go_enter Tryz.func204, Tryz.ntmps204
  go_wp2_with fail
  refine (HC.out _ HR.out).mono ?_
  rintro e1 w1 ⟨rfl, hr, hg⟩
  have HR1 := Lib.hid hr
  have HG1 := Lib.hid hg
  have h2 := H1.out.kept hg (some_ne (Ne.symm hne))
  have hd8 := h2.c8
  have H2 := Lib.hid h2
  clear hr hg h2
  go_wp2_with fail
  refine (HV.out _ HR1.out).mono ?_
  rintro e1 w2 ⟨rfl, hg⟩
  have HG2 := Lib.hid hg
  have H3 := Lib.hid (H2.out.kept hg (by simp))
  clear hg
  go_wp2_with fail
  refine (HW.out _ _ _ _ _ _ _ _ _ _ _ _ _ _ H3.out _).mono ?_
  rintro e1 w3 ⟨rfl, h3, hg⟩
  have HG3 := Lib.hid hg
  have H4 := Lib.hid h3
  clear h3 hg
  go_wp2
  go_ret
  exact ⟨n, rfl, ⟨HG'.out, _, 4, x, H4.out, fun h => absurd h (by show ¬ (5 : Nat) = 3; decide), fun h => absurd h (by show ¬ (5 : Nat) ≤ 3; decide), fun _ => rfl⟩, ((Sep.grown HG1.out (.inr rfl)).trans (.grownN HG2.out)).trans (.grown HG3.out (.inl rfl)), .inl rfl⟩
set_option maxHeartbeats 1000000 in
theorem tells_any (k : Int) (w : World) :
    Calls Tryz.prog 88 #[.int .i64 k] w fun e w' => e = .returned (.bool (!Hd.bits k)) ∧ w = w' := by
  by_cases h1 : k = 1
  · subst h1
    have X := Lib.hid (show (!Hd.bits 1) = false by decide)
    go_enter Tryz.func88, Tryz.ntmps88
    go_wp2
    go_ret
    exact ⟨ret_b X.out.symm, rfl⟩
  by_cases h4 : k = 4
  · subst h4
    have X := Lib.hid (show (!Hd.bits 4) = false by decide)
    go_enter Tryz.func88, Tryz.ntmps88
    go_wp2
    go_ret
    exact ⟨ret_b X.out.symm, rfl⟩
  · have X := Lib.hid (show (!Hd.bits k) = true by unfold Hd.bits; rw [decide_eq_false (by omega)]; rfl)
    have k1 : (k != 1) = true := by simpa using h1
    have k4 : (k != 4) = true := by simpa using h4
    go_enter Tryz.func88, Tryz.ntmps88
    go_wp2
    go_ret
    exact ⟨ret_b X.out.symm, rfl⟩
set_option maxHeartbeats 1000000 in
theorem numbers_any (k : Int) (w : World) :
    Calls Tryz.prog 212 #[.int .i64 k] w fun e w' => e = .returned (.int .i64 (Hd.many k : Nat)) ∧ w = w' := by
  have HT := Lib.hid (tells_any k)
  cases hb : Hd.bits k with
  | true =>
    have X := Lib.hid (show Hd.many k = 2 by unfold Hd.many; rw [if_pos hb])
    rw [hb] at HT
    go_enter Tryz.func212, Tryz.ntmps212
    go_wp2_with (go_at_call 88; refine (HT.out _).mono ?_; rintro e w1 ⟨rfl, rfl⟩)
    go_ret
    exact ⟨by rw [X.out]; rfl, rfl⟩
  | false =>
    have X := Lib.hid (show Hd.many k = 3 by unfold Hd.many; rw [if_neg (by rw [hb]; simp)])
    rw [hb] at HT
    go_enter Tryz.func212, Tryz.ntmps212
    go_wp2_with (go_at_call 88; refine (HT.out _).mono ?_; rintro e w1 ⟨rfl, rfl⟩)
    go_ret
    exact ⟨by rw [X.out]; rfl, rfl⟩
end Go.Proofs.YtmnhiagppicegaaGreat

/- Which heads may be, told by head and by the document, over any memory. Condition: numbers fit their kinds. -/
namespace Go.Proofs.YtmnhiagppicegaaGreat
open Go.RowKit
set_option linter.unusedVariables false

theorem Hj.ret_d {p : Prop} [Decidable p] {b : Bool} (h : decide p = b) : Ending.returned (.bool b) = .returned (.bool (decide p)) := by rw [h]
set_option maxHeartbeats 2000000 in
theorem refMay_any (h : Hd.H) (hf : Hj.Fit h) (w : World) :
    Calls Tryz.prog 93 #[agH h] w fun e w' => e = .returned (.bool (decide (Hd.May h))) ∧ Below w.heap.size w w' := by
  obtain ⟨kd, ww, hh, m⟩ := h
  have HB := Lib.hid (bits_any kd)
  unfold agH
  by_cases a1 : kd < 1
  · have X := Lib.hid (show decide (Hd.May ⟨kd, ww, hh, m⟩) = false from decide_eq_false (fun h => by have := h.1.1; simp only at this; omega))
    go_enter Tryz.func93, Tryz.ntmps93
    go_wp2
    go_ret
    exact ⟨Hj.ret_d X.out, by go_grown⟩
  by_cases a2 : 6 < kd
  · have X := Lib.hid (show decide (Hd.May ⟨kd, ww, hh, m⟩) = false from decide_eq_false (fun h => by have := h.1.2; simp only at this; omega))
    go_enter Tryz.func93, Tryz.ntmps93
    go_wp2
    go_ret
    exact ⟨Hj.ret_d X.out, by go_grown⟩
  by_cases b1 : ww < 1
  · have X := Lib.hid (show decide (Hd.May ⟨kd, ww, hh, m⟩) = false from decide_eq_false (fun h => by have := h.2.1.1; simp only at this; omega))
    go_enter Tryz.func93, Tryz.ntmps93
    go_wp2
    go_ret
    exact ⟨Hj.ret_d X.out, by go_grown⟩
  by_cases b2 : 4096 < ww
  · have X := Lib.hid (show decide (Hd.May ⟨kd, ww, hh, m⟩) = false from decide_eq_false (fun h => by have := h.2.1.2; simp only at this; omega))
    go_enter Tryz.func93, Tryz.ntmps93
    go_wp2
    go_ret
    exact ⟨Hj.ret_d X.out, by go_grown⟩
  by_cases c1 : hh < 1
  · have X := Lib.hid (show decide (Hd.May ⟨kd, ww, hh, m⟩) = false from decide_eq_false (fun h => by have := h.2.2.1.1; simp only at this; omega))
    go_enter Tryz.func93, Tryz.ntmps93
    go_wp2
    go_ret
    exact ⟨Hj.ret_d X.out, by go_grown⟩
  by_cases c2 : 65536 < hh
  · have X := Lib.hid (show decide (Hd.May ⟨kd, ww, hh, m⟩) = false from decide_eq_false (fun h => by have := h.2.2.1.2; simp only at this; omega))
    go_enter Tryz.func93, Tryz.ntmps93
    go_wp2
    go_ret
    exact ⟨Hj.ret_d X.out, by go_grown⟩
  by_cases d1 : m < 1
  · have X := Lib.hid (show decide (Hd.May ⟨kd, ww, hh, m⟩) = false from decide_eq_false (fun h => by have := h.2.2.2.1.1; simp only at this; omega))
    go_enter Tryz.func93, Tryz.ntmps93
    go_wp2
    go_ret
    exact ⟨Hj.ret_d X.out, by go_grown⟩
  by_cases d2 : 65535 < m
  · have X := Lib.hid (show decide (Hd.May ⟨kd, ww, hh, m⟩) = false from decide_eq_false (fun h => by have := h.2.2.2.1.2; simp only at this; omega))
    go_enter Tryz.func93, Tryz.ntmps93
    go_wp2
    go_ret
    exact ⟨Hj.ret_d X.out, by go_grown⟩
  by_cases e1 : m = 1
  · subst e1
    have X := Lib.hid (show decide (Hd.May ⟨kd, ww, hh, 1⟩) = true from decide_eq_true ⟨⟨by simp only []; omega, by simp only []; omega⟩, ⟨by simp only []; omega, by simp only []; omega⟩, ⟨by simp only []; omega, by simp only []; omega⟩, ⟨by simp, by simp⟩, fun _ => rfl⟩)
    go_enter Tryz.func93, Tryz.ntmps93
    go_wp2
    go_ret
    exact ⟨Hj.ret_d X.out, by go_grown⟩
  · have k1 : (m == 1) = false := by simpa using e1
    obtain ⟨g, hg⟩ : ∃ g, Hd.bits kd = g := ⟨_, rfl⟩
    have X : Hid (decide (Hd.May ⟨kd, ww, hh, m⟩) = !g) := by
      show _ = _
      cases g with
      | true => exact decide_eq_false (fun h => e1 (h.2.2.2.2 hg))
      | false => exact decide_eq_true ⟨⟨by simp only []; omega, by simp only []; omega⟩, ⟨by simp only []; omega, by simp only []; omega⟩, ⟨by simp only []; omega, by simp only []; omega⟩, ⟨by simp only []; omega, by simp only []; omega⟩, fun h => absurd (hg.symm.trans h) (by decide)⟩
    rw [hg] at HB
    go_enter Tryz.func93, Tryz.ntmps93
    go_wp2_with (go_at_call 95; refine (HB.out _).mono ?_; rintro e w9 ⟨rfl, rfl⟩)
    go_ret
    exact ⟨Hj.ret_d X.out, by go_grown⟩
end Go.Proofs.YtmnhiagppicegaaGreat

/- A row's own bytes, and its pixels, over any memory. Condition: numbers fit their kinds. -/
namespace Go.Proofs.YtmnhiagppicegaaGreat
open Go.RowKit Go.Shelf
attribute [local go_sem] Oper.semAt_some
set_option linter.unusedVariables false
namespace Bt
theorem rowOf_no (a : Option Addr) (len cap : Nat) (W : Int) (hl : len ≤ 9223372036854775807) (h : rowE len W ≠ 0) (w : World) :
    Calls Tryz.prog 206 #[.slice a len cap, .int .i64 W] w fun e w' => e = .returned (.tuple #[.slice none 0 0, .int .i64 (rowE len W)]) ∧ w = w' := by
  obtain ⟨n, hn⟩ : ∃ n, bytesV W = n := ⟨_, rfl⟩
  have HN := Lib.hid hn
  unfold rowE at h ⊢
  rw [hn] at h ⊢
  clear hn
  by_cases h0 : n = 0
  · have h0b : (n == 0) = true := by simpa using h0
    have X := Lib.hid (show (1 : Int) = (if n = 0 then 1 else if (len : Int) < n then 6 else 0) by rw [if_pos h0])
    rw [← X.out]
    clear h
    go_enter Tryz.func206, Tryz.ntmps206
    go_wp2_with (first | (go_at_call 188; refine (bytes_any _ _).mono ?_; rw [HN.out]; rintro e w1 ⟨rfl, rfl⟩))
    go_ret2
    exact ⟨rfl, rfl⟩
  · have h0b : (n == 0) = false := by simpa using h0
    by_cases h1 : (len : Int) < n
    · have X := Lib.hid (show (6 : Int) = (if n = 0 then 1 else if (len : Int) < n then 6 else 0) by rw [if_neg h0, if_pos h1])
      rw [← X.out]
      clear h
      go_enter Tryz.func206, Tryz.ntmps206
      go_wp2_with (first | (go_at_call 188; refine (bytes_any _ _).mono ?_; rw [HN.out]; rintro e w1 ⟨rfl, rfl⟩))
      go_ret2
      exact ⟨rfl, rfl⟩
    · rw [if_neg h0, if_neg h1] at h
      exact absurd rfl h
theorem rowOf_yes (b o : Nat) (len cap n : Nat) (W : Int) (hl : len ≤ cap) (hc : cap ≤ 9223372036854775807) (hn : bytesV W = n) (h1 : 1 ≤ n) (h2 : n ≤ len) (w : World) :
    Calls Tryz.prog 206 #[.slice (some ⟨b, o, none⟩) len cap, .int .i64 W] w fun e w' => e = .returned (.tuple #[.slice (some ⟨b, o, none⟩) n cap, .int .i64 0]) ∧ w = w' := by
  have HN := Lib.hid hn; clear hn
  have h0b : ((n : Int) == 0) = false := by simp; omega
  have h3 : ¬ (len : Int) < n := by omega
  have h4 : ¬ len < n := by omega
  go_enter Tryz.func206, Tryz.ntmps206
  go_wp2_with (first | (go_at_call 188; refine (bytes_any _ _).mono ?_; rw [HN.out]; rintro e w1 ⟨rfl, rfl⟩))
  go_ret2
  exact ⟨rfl, rfl⟩
theorem ownsRow_same {A B : World} {base size n cap g : Nat} {e : TypeId} {xs : List Value} (h : A.ownsRow base e size (.slice (some ⟨g, 0, none⟩) n cap) n xs) (hb : B.heap[g]? = A.heap[g]?) : B.ownsRow base e size (.slice (some ⟨g, 0, none⟩) n cap) n xs := by
  obtain ⟨h1, h2⟩ := h
  refine ⟨h1, ?_⟩
  rcases h2 with ⟨h2, _⟩ | ⟨g', cap', cur, h2, hg, hc, r⟩
  · cases h2
  · cases h2
    exact .inr ⟨g, cap, cur, rfl, hg, hb.trans hc, r⟩
theorem ownsRow_blk {A : World} {base size n cap g : Nat} {e : TypeId} {xs : List Value} (h : A.ownsRow base e size (.slice (some ⟨g, 0, none⟩) n cap) n xs) : base ≤ g ∧ g < A.heap.size := h.lt g rfl
/-- 'x = append(x, ..)' within the capacity, x in a cell of its own, in a round: all that the round owes. -/
theorem fitted {W w1 : World} {base B g : Nat} {t e : TypeId} {k m cap : Nat} {xs ys : List Value} {tmp : Obj}
    (hv : Boxed W B t (.slice (some ⟨g, 0, none⟩) k cap)) (hte : t ≠ e) (hrow : W.ownsRow base e 1 (.slice (some ⟨g, 0, none⟩) k cap) k xs) (hown' : w1.ownsRow base e 1 (.slice (some ⟨g, 0, none⟩) m cap) m ys) (hgrow : (W.alloc tmp).grownBy w1 (some g)) :
    Boxed w1 B t (.slice (some ⟨g, 0, none⟩) k cap) ∧ Boxed (w1.setCell ⟨B, 0, none⟩ (.slice (some ⟨g, 0, none⟩) m cap)) B t (.slice (some ⟨g, 0, none⟩) m cap) ∧ (w1.setCell ⟨B, 0, none⟩ (.slice (some ⟨g, 0, none⟩) m cap)).ownsRow base e 1 (.slice (some ⟨g, 0, none⟩) m cap) m ys ∧
    (∀ Z : Nat → Prop, ¬ Z B → ¬ Z g → Hold Z W (w1.setCell ⟨B, 0, none⟩ (.slice (some ⟨g, 0, none⟩) m cap))) ∧
    (∀ m', m' ≤ B → m' ≤ base → m' ≤ W.heap.size → Below m' W (w1.setCell ⟨B, 0, none⟩ (.slice (some ⟨g, 0, none⟩) m cap))) := by
  have hb : base ≤ g := (ownsRow_blk hrow).1
  have hne : some B ≠ some g := hv.not_row hte hrow
  have hv1 : Boxed w1 B t (.slice (some ⟨g, 0, none⟩) k cap) := (hv.alloc tmp).kept hgrow hne
  refine ⟨hv1, hv1.set _, hown'.kept (grownBy_setCell' w1 B _) (.inr (hv1.not_row hte hown').symm), fun Z hz hzg => ?_, fun m' h1 h2 h3 => ?_⟩
  · exact ((Hold.alloc Z W tmp).trans (.grown hgrow fun j ej => by cases ej; exact hzg)).trans (.setCell _ hz _)
  · exact (((Below.refl m' W).alloc h3 tmp).grown hgrow (by simp; omega) fun j ej => by cases ej; exact Nat.le_trans h2 hb).setCell (p := ⟨B, 0, none⟩) h1 _
def UnpR (xs : List Int) (er : Int) (w : World) (e : Ending) (w' : World) : Prop :=
  ∃ ad cap, e = .returned (.tuple #[.slice ad xs.length cap, .int .i64 er]) ∧ w'.ownsRow w.heap.size 3 1 (.slice ad xs.length cap) xs.length (xs.map (Value.int .i64)) ∧ Below w.heap.size w w'
theorem Tryz.info_int : (Tryz.prog.info? 3).map (fun i => (i.zero, i.size, i.bytes)) = some (some (.int .i64 0), 1, 8) := by kernel_rfl
set_option maxRecDepth 100000 in
theorem unpack_no (a : Option Addr) (len cap : Nat) (W : Int) (hl : len ≤ 9223372036854775807) (h : rowE len W ≠ 0) (w : World) :
    Calls Tryz.prog 197 #[.slice a len cap, .int .i64 W] w fun e w' => e = .returned (.tuple #[.slice none 0 0, .int .i64 (rowE len W)]) ∧ w = w' := by
  have hk : (rowE len W != 0) = true := by simpa using h
  have H := Lib.hid h; clear h
  obtain ⟨r, hr⟩ : ∃ r, rowE len W = r := ⟨_, rfl⟩
  have HR := Lib.hid hr
  rw [hr] at hk ⊢
  clear hr
  refine calls_of_marks Tryz.func197 rfl ?_
  simp only [Tryz.ntmps197, List.size_toArray, List.length_cons, List.length_nil, Nat.reduceAdd, Nat.reduceSub, Array.replicate_succ, Array.replicate_zero, List.push_toArray, List.append_toArray, List.nil_append, List.cons_append]
  go_wp2_with (first | (go_at_call 206; refine (rowOf_no _ _ _ _ hl H.out _).mono ?_; rw [HR.out]; rintro e w1 ⟨rfl, rfl⟩))
  exact ⟨_, results_tmp2 rfl _ _ _, rfl, rfl⟩
set_option maxRecDepth 100000 in
set_option maxHeartbeats 2000000 in
theorem unpack_yes (zs : List Int) (b o len cap n W : Nat) (hzs : zs.length = n) (hby : ∀ z ∈ zs, 0 ≤ z ∧ z ≤ 255) (hl : len ≤ cap) (hc : cap ≤ 9223372036854775807) (hn : bytesV W = n) (h1 : 1 ≤ n) (h2 : n ≤ len) (hn2 : n ≤ 4096) (hW1 : W ≤ 8 * n) (hW2 : 8 * n < W + 8) (w : World)
    (hr : ∀ i, i < n → w.cell? ⟨b, o + i, none⟩ = some (.int .u8 (zs.getD i 0))) :
    Calls Tryz.prog 197 #[.slice (some ⟨b, o, none⟩) len cap, .int .i64 W] w (UnpR ((bitsOf zs).take W) 0 w) := by
  obtain ⟨i0, hi, hz0, hz1, hz2⟩ := info_parts Tryz.info_int
  have HR := Lib.hid hr; clear hr
  have HN := Lib.hid hn; clear hn
  have W0 : (0 : Int) ≤ W := Int.natCast_nonneg _
  refine calls_of_marks Tryz.func197 rfl ?_
  simp only [Tryz.ntmps197, List.size_toArray, List.length_cons, List.length_nil, Nat.reduceAdd, Nat.reduceSub, Array.replicate_succ, Array.replicate_zero, List.push_toArray, List.append_toArray, List.nil_append, List.cons_append]
  go_wp2_with (first
    | (go_at_call 206; refine (rowOf_yes _ _ _ _ n _ hl hc HN.out h1 h2 _).mono ?_; rintro e w1 ⟨rfl, rfl⟩)
    | (at_make; refine wpList_make_own _ rfl _ _ 22 rfl w.heap.size 3 i0 (.int .i64 0) 1 Tryz.underlying22 hi hz0 hz1 .i64 .i64 (W : Int) W rfl rfl rfl (by rw [hz2]; omega) (by unfold maxLen; omega) (Nat.le_refl _) ?_; intro w1 hown hgrow; have hb1 : Below w.heap.size w w1 := (Below.refl _ w).grown hgrow (Nat.le_refl _) (by simp); have HO := Lib.hid hown; clear hown)
    | (go_at_call 207; refine (pixels_made _ _ _ _ _).mono ?_; rintro e w2 ⟨nb, bb, rfl, hne, l1, l2, cn, cb, hb⟩))
  simp only [World.size_alloc] at l1 l2
  have hbw : b < w.heap.size := by have := HR.out 0 (by omega); exact block_lt_of_cell this
  have hs1 := hb1.size
  have hs2 := hb.size
  have ln : nb < w2.heap.size := block_lt_of_cell cn
  have lb : bb < w2.heap.size := block_lt_of_cell cb
  have hg1 : w.heap.size < w1.heap.size := (ownsRow_blk HO.out).2
  obtain ⟨B, hB⟩ : ∃ B, w1.heap.size = B := ⟨_, rfl⟩
  have hv0 : Boxed w2 B 22 (.slice (some ⟨w.heap.size, 0, none⟩) 0 W) := by rw [← hB]; exact (hb.block _ (by simp)).trans (Boxed.new w1 _ _)
  have hr0 : w2.ownsRow w.heap.size 3 1 (.slice (some ⟨w.heap.size, 0, none⟩) 0 W) 0 [] := ownsRow_same (HO.out.alloc _) (hb.block _ (by simp; omega))
  have hbel : Below w.heap.size w w2 := (hb1.alloc (by omega) _).trans (hb.mono (by simp; omega))
  have hrow2 : ∀ i, i < n → w2.cell? ⟨b, o + i, none⟩ = some (.int .u8 (zs.getD i 0)) := fun i hi => cell_later hbel (HR.out i hi)
  rw [hB]
  rw [hB] at l1 l2 hg1
  simp only [World.size_alloc, hB] at hs2
  have hzB : ¬ (Zp nb bb b w2 B ∨ B = w2.heap.size ∨ B = w2.heap.size + 1) := by unfold Zp; omega
  have hyB : ¬ (Zs nb bb w2 B ∨ B = w2.heap.size ∨ B = w2.heap.size + 1) := by unfold Zs; omega
  have hzg : ¬ (Zp nb bb b w2 w.heap.size ∨ w.heap.size = w2.heap.size ∨ w.heap.size = w2.heap.size + 1) := by unfold Zp; omega
  have hyg : ¬ (Zs nb bb w2 w.heap.size ∨ w.heap.size = w2.heap.size ∨ w.heap.size = w2.heap.size + 1) := by unfold Zs; omega
  have hxl : ((bitsOf zs).take W).length = W := by rw [List.length_take, bitsOf_len]; omega
  have hGV := pixels_gives zs n W cap b o nb bb hzs hby h1 hn2 hW1 hW2 (by omega) w2 2 (by omega) cn cb hrow2
  obtain ⟨xs, hxs⟩ : ∃ xs, (bitsOf zs).take W = xs := ⟨_, rfl⟩
  rw [hxs] at hxl hGV
  have HX := Lib.hid hxs
  clear hb hB hb1 HO cn cb hxs hrow2
  refine range_wpN (gf := 213) (lb := #[.pointer (some ⟨nb, 0, none⟩), .pointer (some ⟨bb, 0, none⟩)]) rfl (enters_of Tryz.func213 (by kernel_rfl) rfl)
    hGV (by intro k; unfold Zp Zs; omega) (by unfold Zp; omega) (by unfold Zp; omega) (fun _ => rfl)
    (fun pre W' => Boxed W' B 22 (.slice (some ⟨w.heap.size, 0, none⟩) pre.length W) ∧ W'.ownsRow w.heap.size 3 1 (.slice (some ⟨w.heap.size, 0, none⟩) pre.length W) pre.length (pre.map (Value.int .i64)) ∧ Below w.heap.size w W')
    (fun _ _ _ => False) ?hI (fun _ _ _ _ hh _ => hh) ⟨hv0, hr0, hbel⟩ ?_ ?assign ?body ?done ?stop
  case hI =>
    rintro p A B' ⟨h1, h2, h4⟩ hs
    refine ⟨boxed_sep h1 hs hyB, ownsRow_same h2 (hs.block _ (ownsRow_blk h2).2 hyg), ?_⟩
    exact h4.trans (hs.below h4.size (by intro k hk; unfold Zs; omega))
  case assign =>
    intro l x W K hK
    gi_wp2
    exact hK
  case body =>
    rintro l pre x rest W' hx hlt ⟨hv, hrow, hB⟩
    have hp : pre.length + 1 ≤ W := by have := congrArg List.length hx; simp at this; omega
    clear hx hv0 hr0
    have hW := hB.size
    have hvc := hv.cell
    gi_wp2_with (gi_at_builtin; refine wpListIn_append_fits _ rfl _ _ 22 rfl w.heap.size 3 i0 1 Tryz.underlying22 hi hz1 w.heap.size pre.length W _ rfl (hrow.alloc _) ⟨W'.heap.size, 0, none⟩ 1 1 [.int .i64 x] rfl rfl (cell_one_new _ _ _) (by simp [Value.oneCell']) hp ?_; intro w5 hown' hgrow'; obtain ⟨hv1, hv2, hr2, hh2, hb2⟩ := fitted hv (by decide) hrow hown' hgrow'; have hc1 := hv1.cell; have hf1 := hv1.frozen)
    exact ⟨hh2 _ hzB hzg, by simpa using hv2, by simpa using hr2, hB.trans (hb2 _ (by omega) (Nat.le_refl _) hW)⟩
  case done =>
    rintro W' ⟨hv, hrow, hB⟩ hK
    have hvc := hv.cell
    rw [hxl] at hrow hvc
    clear hv0 hr0 hv
    go_wp2
    refine ret_mark hK (results_tmp2 rfl _ _ _) ?_
    have hlK : w2.heap.size < W'.heap.size := (Array.getElem?_eq_some_iff.1 hK).1
    rw [HX.out]
    refine ⟨some ⟨w.heap.size, 0, none⟩, W, by rw [hxl]; rfl, ?_, Below.putObj hB (by omega) _⟩
    rw [hxl]
    exact ownsRow_same hrow (World.putObj_heap_other (by omega))
  case stop =>
    rintro c pre W _ hh _
    exact hh.elim
end Bt
end Go.Proofs.YtmnhiagppicegaaGreat

/- A row's pixels, how many are 1, and its spare bits, over any memory, of bits. Condition: numbers fit their kinds. -/
namespace Go.Proofs.YtmnhiagppicegaaGreat
open Go.RowKit Go.Shelf
attribute [local go_sem] Oper.semAt_some
set_option linter.unusedVariables false
namespace Bt
/-- What is known of bytes that come in: a slice of them, each a byte. -/
def Bs (w : World) (a : Option Addr) (len cap : Nat) (zs : List Int) : Prop := SlK .u8 w a len zs ∧ len ≤ cap ∧ cap ≤ 9223372036854775807 ∧ ∀ z ∈ zs, 0 ≤ z ∧ z ≤ 255
theorem Bs.below {w w' : World} {a : Option Addr} {len cap : Nat} {zs : List Int} (h : Bs w a len cap zs) (hb : Below w.heap.size w w') : Bs w' a len cap zs := ⟨h.1.below hb, h.2⟩
theorem bytesV_pos {n : Nat} {W : Int} (h : rowE n W = 0) : ∃ N P : Nat, W = P ∧ bytesV W = N ∧ 1 ≤ N ∧ N ≤ n ∧ N ≤ 4096 ∧ P ≤ 8 * N ∧ 8 * N < P + 8 := by
  unfold rowE at h
  by_cases h0 : bytesV W = 0
  · rw [if_pos h0] at h; cases h
  · rw [if_neg h0] at h
    by_cases h1 : (n : Int) < bytesV W
    · rw [if_pos h1] at h; cases h
    · unfold bytesV at h0 h1 ⊢
      by_cases h2 : W < 1 ∨ 4096 < W
      · rw [if_pos h2] at h0; exact absurd rfl h0
      · rw [if_neg h2] at h1 ⊢
        exact ⟨((W + 7) / 8).toNat, W.toNat, by omega, by omega, by omega, by omega, by omega, by omega, by omega⟩
theorem bits_cut (zs : List Int) (N W : Nat) (hW : W ≤ 8 * N) : (bitsOf (zs.take N)).take W = (bitsOf zs).take W := by
  by_cases h : zs.length ≤ N
  · rw [List.take_of_length_le h]
  · conv => rhs; rw [← List.take_append_drop N zs, bitsOf_append]
    rw [List.take_append_of_le_length (by rw [bitsOf_len, List.length_take]; omega)]
/-- the row of bytes that is asked for -/
theorem row_of {w : World} {a : Option Addr} {len cap : Nat} {zs : List Int} (h : Bs w a len cap zs) {N : Nat} (h1 : 1 ≤ N) (h2 : N ≤ len) :
    ∃ b o, a = some ⟨b, o, none⟩ ∧ (zs.take N).length = N ∧ (∀ z ∈ zs.take N, 0 ≤ z ∧ z ≤ 255) ∧ ∀ i, i < N → w.cell? ⟨b, o + i, none⟩ = some (.int .u8 ((zs.take N).getD i 0)) := by
  obtain ⟨⟨hl, hs⟩, hc, hm, hby⟩ := h
  rcases hs with h0 | ⟨b, o, rfl, hs⟩
  · omega
  · refine ⟨b, o, rfl, by rw [List.length_take]; omega, fun z hz => hby z (List.mem_of_mem_take hz), fun i hi => ?_⟩
    rw [hs i (by omega), List.getD_eq_getElem?_getD, List.getD_eq_getElem?_getD, List.getElem?_take_of_lt hi]
theorem unpack_any (a : Option Addr) (len cap : Nat) (zs : List Int) (W : Int) (w : World) (h : Bs w a len cap zs) :
    Calls Tryz.prog 197 #[.slice a len cap, .int .i64 W] w (UnpR (unpackV zs W) (rowE len W) w) := by
  have hl : zs.length = len := h.1.1
  by_cases h0 : rowE len W = 0
  · obtain ⟨N, P, rfl, hN, h1, h2, h3, h4, h5⟩ := bytesV_pos h0
    obtain ⟨b, o, rfl, k1, k2, k3⟩ := row_of h h1 h2
    have := unpack_yes (zs.take N) b o len cap N P k1 k2 h.2.1 h.2.2.1 hN h1 h2 h3 h4 h5 w k3
    rw [bits_cut zs N P h4] at this
    unfold unpackV
    rw [hl, if_pos h0, h0]
    exact this
  · refine (unpack_no a len cap W (by have := h.2; omega) h0 w).mono ?_
    rintro e w' ⟨rfl, rfl⟩
    unfold unpackV
    rw [hl, if_neg h0]
    exact ⟨none, 0, rfl, World.ownsRow_nil _ _ _ _, Below.refl _ _⟩
end Bt
end Go.Proofs.YtmnhiagppicegaaGreat

/- One bit of bytes, over any memory, of bits and of the document's own answer. Condition: numbers fit their kinds. -/
namespace Go.Proofs.YtmnhiagppicegaaGreat
open Go.RowKit Go.Shelf
set_option linter.unusedVariables false
namespace Bt
/-- a bit, or -1 -/
def bitV (zs : List Int) (i : Int) : Int := if i < 0 then -1 else if zs.length ≤ i / 8 then -1 else (bitsOf zs).getD i.toNat 0
theorem bitV_in {zs : List Int} {k j : Nat} (hk : k < zs.length) (hj : j < 8) {i : Int} (hi : i = 8 * k + j) : bitV zs i = (eight (zs.getD k 0)).getD j 0 := by
  unfold bitV
  rw [if_neg (by omega), if_neg (by omega), show i.toNat = 8 * k + j by omega, bitsOf_get zs k j hk hj]
set_option maxRecDepth 100000 in
set_option maxHeartbeats 2000000 in
theorem refBit_yes (c i : Int) (b o len cap k j : Nat) (hi : i = 8 * k + j) (hj : j < 8) (hk : k < len) (hlc : len ≤ 9223372036854775807) (c0 : 0 ≤ c) (c1 : c ≤ 255) (hi9 : i ≤ 9223372036854775807) (w : World) (hc : w.cell? ⟨b, o + k, none⟩ = some (.int .u8 c)) :
    Calls Tryz.prog 184 #[.slice (some ⟨b, o, none⟩) len cap, .int .i64 i] w fun e w' => e = .returned (.int .i64 ((eight c).getD j 0)) ∧ w = w' := by
  have hq : i / 8 = k := by omega
  have hr : i % 8 = j := by omega
  have hi0 : 0 ≤ i := by omega
  have hk1 : (k : Int) < len := by omega
  have hk0 : (0 : Int) ≤ k := Int.natCast_nonneg _
  have hn1 : ¬ (len : Int) ≤ k := by omega
  have hn2 : ¬ len ≤ k := by omega
  clear hi
  obtain rfl | rfl | rfl | rfl | rfl | rfl | rfl | rfl : j = 0 ∨ j = 1 ∨ j = 2 ∨ j = 3 ∨ j = 4 ∨ j = 5 ∨ j = 6 ∨ j = 7 := by omega
  · rw [show (((0 : Nat)) : Int) = 0 from rfl] at hr
    rw [show (eight c).getD 0 0 = c / 128 % 2 from rfl]
    go_enter Tryz.func184, Tryz.ntmps184
    go_wp2
    go_rounds 8
    go_ret
    exact ⟨ret_i (by omega), rfl⟩
  · rw [show (((1 : Nat)) : Int) = 1 from rfl] at hr
    rw [show (eight c).getD 1 0 = c / 64 % 2 from rfl]
    go_enter Tryz.func184, Tryz.ntmps184
    go_wp2
    go_rounds 7
    go_ret
    exact ⟨ret_i (by omega), rfl⟩
  · rw [show (((2 : Nat)) : Int) = 2 from rfl] at hr
    rw [show (eight c).getD 2 0 = c / 32 % 2 from rfl]
    go_enter Tryz.func184, Tryz.ntmps184
    go_wp2
    go_rounds 6
    go_ret
    exact ⟨ret_i (by omega), rfl⟩
  · rw [show (((3 : Nat)) : Int) = 3 from rfl] at hr
    rw [show (eight c).getD 3 0 = c / 16 % 2 from rfl]
    go_enter Tryz.func184, Tryz.ntmps184
    go_wp2
    go_rounds 5
    go_ret
    exact ⟨ret_i (by omega), rfl⟩
  · rw [show (((4 : Nat)) : Int) = 4 from rfl] at hr
    rw [show (eight c).getD 4 0 = c / 8 % 2 from rfl]
    go_enter Tryz.func184, Tryz.ntmps184
    go_wp2
    go_rounds 4
    go_ret
    exact ⟨ret_i (by omega), rfl⟩
  · rw [show (((5 : Nat)) : Int) = 5 from rfl] at hr
    rw [show (eight c).getD 5 0 = c / 4 % 2 from rfl]
    go_enter Tryz.func184, Tryz.ntmps184
    go_wp2
    go_rounds 3
    go_ret
    exact ⟨ret_i (by omega), rfl⟩
  · rw [show (((6 : Nat)) : Int) = 6 from rfl] at hr
    rw [show (eight c).getD 6 0 = c / 2 % 2 from rfl]
    go_enter Tryz.func184, Tryz.ntmps184
    go_wp2
    go_rounds 2
    go_ret
    exact ⟨ret_i (by omega), rfl⟩
  · rw [show (((7 : Nat)) : Int) = 7 from rfl] at hr
    rw [show (eight c).getD 7 0 = c % 2 from rfl]
    go_enter Tryz.func184, Tryz.ntmps184
    go_wp2
    go_rounds 1
    go_ret
    exact ⟨ret_i (by omega), rfl⟩
theorem refBit_no (a : Option Addr) (i : Int) (len cap : Nat) (hl : len ≤ 9223372036854775807) (h9 : -9223372036854775808 ≤ i ∧ i ≤ 9223372036854775807) (h : i < 0 ∨ (len : Int) ≤ i / 8) (w : World) :
    Calls Tryz.prog 184 #[.slice a len cap, .int .i64 i] w fun e w' => e = .returned (.int .i64 (-1)) ∧ w = w' := by
  obtain ⟨h8, h9⟩ := h9
  by_cases h0 : i < 0
  · clear h
    go_enter Tryz.func184, Tryz.ntmps184
    go_wp2
    go_ret
    exact ⟨rfl, rfl⟩
  · have h1 : (len : Int) ≤ i / 8 := by omega
    have h2 : 0 ≤ i := by omega
    clear h
    go_enter Tryz.func184, Tryz.ntmps184
    go_wp2
    go_ret
    exact ⟨rfl, rfl⟩
theorem place (i : Int) (len : Nat) (h0 : ¬ i < 0) (h1 : ¬ (len : Int) ≤ i / 8) : ∃ k j : Nat, i = 8 * k + j ∧ j < 8 ∧ k < len :=
  ⟨(i / 8).toNat, (i % 8).toNat, by omega, by omega, by omega⟩
theorem refBit_any (a : Option Addr) (len cap : Nat) (zs : List Int) (i : Int) (h9 : -9223372036854775808 ≤ i ∧ i ≤ 9223372036854775807) (w : World) (h : Bs w a len cap zs) :
    Calls Tryz.prog 184 #[.slice a len cap, .int .i64 i] w fun e w' => e = .returned (.int .i64 (bitV zs i)) ∧ w = w' := by
  obtain ⟨⟨hl, hs⟩, hc, hm, hby⟩ := h
  by_cases h0 : i < 0
  · unfold bitV
    rw [if_pos h0]
    exact refBit_no a i len cap (by omega) h9 (.inl h0) w
  · by_cases h1 : (len : Int) ≤ i / 8
    · unfold bitV
      rw [if_neg h0, hl, if_pos h1]
      exact refBit_no a i len cap (by omega) h9 (.inr h1) w
    · obtain ⟨k, j, e1, e2, e3⟩ := place i len h0 h1
      rcases hs with hs | ⟨b, o, rfl, hs⟩
      · omega
      · have hz := hby (zs.getD k 0) (by rw [List.getD_eq_getElem?_getD, List.getElem?_eq_getElem (by omega)]; exact List.getElem_mem _)
        rw [bitV_in (by omega) e2 e1]
        exact refBit_yes (zs.getD k 0) i b o len cap k j e1 e2 e3 (by omega) hz.1 hz.2 h9.2 w (hs k e3)
end Bt
end Go.Proofs.YtmnhiagppicegaaGreat

/- A row's pixels, by the document's own answer, over any memory. Condition: numbers fit their kinds. -/
namespace Go.Proofs.YtmnhiagppicegaaGreat
open Go.RowKit Go.Shelf
set_option linter.unusedVariables false
namespace Bt
theorem refUnpack_no (a : Option Addr) (len cap : Nat) (W : Int) (hl : len ≤ 9223372036854775807) (h : rowE len W ≠ 0) (w : World) :
    Calls Tryz.prog 161 #[.slice a len cap, .int .i64 W] w fun e w' => e = .returned (.tuple #[.slice none 0 0, .int .i64 (rowE len W)]) ∧ w = w' := by
  obtain ⟨n, hn⟩ : ∃ n, bytesV W = n := ⟨_, rfl⟩
  have HN := Lib.hid hn
  unfold rowE at h ⊢
  rw [hn] at h ⊢
  clear hn
  by_cases h0 : n = 0
  · have h0b : (n == 0) = true := by simpa using h0
    have X := Lib.hid (show (1 : Int) = (if n = 0 then 1 else if (len : Int) < n then 6 else 0) by rw [if_pos h0])
    rw [← X.out]
    clear h
    go_enter Tryz.func161, Tryz.ntmps161
    go_wp2_with (first | (go_at_call 183; refine (refBytes_any _ _).mono ?_; rw [HN.out]; rintro e w1 ⟨rfl, rfl⟩))
    go_ret2
    exact ⟨rfl, rfl⟩
  · have h0b : (n == 0) = false := by simpa using h0
    by_cases h1 : (len : Int) < n
    · have X := Lib.hid (show (6 : Int) = (if n = 0 then 1 else if (len : Int) < n then 6 else 0) by rw [if_neg h0, if_pos h1])
      rw [← X.out]
      clear h
      go_enter Tryz.func161, Tryz.ntmps161
      go_wp2_with (first | (go_at_call 183; refine (refBytes_any _ _).mono ?_; rw [HN.out]; rintro e w1 ⟨rfl, rfl⟩))
      go_ret2
      exact ⟨rfl, rfl⟩
    · rw [if_neg h0, if_neg h1] at h
      exact absurd rfl h
theorem bitV_nat {zs : List Int} {i : Nat} (h : i < 8 * zs.length) : bitV zs i = (bitsOf zs).getD i 0 := by
  unfold bitV
  rw [if_neg (by omega), if_neg (by omega)]; rfl
theorem take_push (l : List Int) (k : Nat) (h : k < l.length) : (l.take k).map (Value.int .i64) ++ [.int .i64 (l.getD k 0)] = (l.take (k + 1)).map (Value.int .i64) := by
  rw [← take_next l k h]; simp
set_option maxRecDepth 100000 in
set_option maxHeartbeats 2000000 in
theorem refUnpack_yes (a : Option Addr) (len cap : Nat) (zs : List Int) (n W : Nat) (w : World) (h : Bs w a len cap zs) (hn : bytesV W = n) (h1 : 1 ≤ n) (h2 : n ≤ len) (hn2 : n ≤ 4096) (hW1 : W ≤ 8 * n) :
    Calls Tryz.prog 161 #[.slice a len cap, .int .i64 W] w (UnpR ((bitsOf zs).take W) 0 w) := by
  obtain ⟨i0, hi, hz0, hz1, hz2⟩ := info_parts Tryz.info_int
  have hl : zs.length = len := h.1.1
  have hl9 : len ≤ 9223372036854775807 := by have := h.2; omega
  have HN := Lib.hid hn; clear hn
  have h0b : ((n : Int) == 0) = false := by simp; omega
  have h3 : ¬ (len : Int) < n := by omega
  have h4 : ¬ len < n := by omega
  have W0 : (0 : Int) ≤ W := Int.natCast_nonneg _
  obtain ⟨xs, hxs⟩ : ∃ xs, (bitsOf zs).take W = xs := ⟨_, rfl⟩
  have hxl : xs.length = W := by rw [← hxs, List.length_take, bitsOf_len]; omega
  have hget : ∀ k, k < W → bitV zs k = xs.getD k 0 := fun k hk => by
    rw [bitV_nat (by omega), ← hxs, List.getD_eq_getElem?_getD, List.getD_eq_getElem?_getD, List.getElem?_take_of_lt hk]
  have HB := Lib.hid h; clear h
  have HG := Lib.hid hget; clear hget
  have HL := Lib.hid hxl; clear hxl
  rw [hxs]
  have HZ := Lib.hid hl; clear hl hxs
  go_enter Tryz.func161, Tryz.ntmps161
  go_wp2_with (first | (go_at_call 183; refine (refBytes_any _ _).mono ?_; rw [HN.out]; rintro e w1 ⟨rfl, rfl⟩))
  go_loopg [7, 8] W (fun g s7 s8 wr => ∃ k : Nat, k + g = W ∧ s8 = .int .i64 k ∧ wr.ownsRow w.heap.size 3 1 s7 k ((xs.take k).map (Value.int .i64)) ∧ Below w.heap.size w wr)
  case atStart => exact ⟨0, by omega, rfl, World.ownsRow_nil _ _ _ _, Below.refl _ _⟩
  case round =>
    obtain ⟨k, hk, rfl, hrow, hB⟩ := hrel
    cases gk with
    | zero =>
      obtain rfl : k = W := by omega
      obtain ⟨ad, cap', rfl, hown, hcap⟩ := ownK_row (by rw [List.length_take, HL.out]; omega) hrow
      have hrow' := Lib.hid hrow; clear hrow
      go_wp2
      go_ret2
      refine ⟨ad, cap', by rw [HL.out]; rfl, ?_, hB⟩
      have := hrow'.out
      rw [List.take_of_length_le (by rw [HL.out]; omega)] at this
      rw [HL.out]
      exact this
    | succ g =>
      have hlt : (k : Int) < W := by omega
      have k0 : (0 : Int) ≤ k := Int.natCast_nonneg _
      have hW := hB.size
      obtain ⟨x, hx⟩ : ∃ x, xs.getD k 0 = x := ⟨_, rfl⟩
      have hbx : bitV zs k = x := by rw [HG.out k (by omega)]; exact hx
      have hpu := take_push xs k (by rw [HL.out]; omega)
      rw [hx] at hpu
      have HP := Lib.hid hpu
      have HX := Lib.hid hbx
      clear hpu hbx hx
      have HR := Lib.hid hrow; clear hrow
      go_wp2_with (first
        | (go_at_call 184; refine (refBit_any _ _ _ zs _ (by omega) _ (HB.out.below hB)).mono ?_; rw [HX.out]; rintro e w5 ⟨rfl, rfl⟩)
        | (at_builtin; refine wpList_append_own _ rfl _ _ 22 rfl w.heap.size 3 i0 (.int .i64 0) 1 8 Tryz.underlying22 hi hz0 hz1 hz2 rfl (by decide) _ k _ rfl (HR.out.alloc _) ⟨wr.heap.size, 0, none⟩ 1 1 [.int .i64 x] rfl rfl (cell_one_new _ _ _) (by simp [Value.oneCell']) (by unfold maxLen; omega) (by omega) (by simp; omega) ?_; intro v' w4 hown' hgrow _; have HO := Lib.hid hown'; have hB4 := ((hB.alloc hW _).grown hgrow (by simp; omega) (fun j ej => (HR.out.lt j ej).1)); clear hown' hgrow))
      go_roundg g
      case measure => omega
      case rel =>
        have := HO.out
        rw [HP.out] at this
        exact ⟨k + 1, by omega, by go_num, this, hB4⟩
theorem refUnpack_any (a : Option Addr) (len cap : Nat) (zs : List Int) (W : Int) (w : World) (h : Bs w a len cap zs) :
    Calls Tryz.prog 161 #[.slice a len cap, .int .i64 W] w (UnpR (unpackV zs W) (rowE len W) w) := by
  have hl : zs.length = len := h.1.1
  by_cases h0 : rowE len W = 0
  · obtain ⟨N, P, rfl, hN, h1, h2, h3, h4, h5⟩ := bytesV_pos h0
    have := refUnpack_yes a len cap zs N P w h hN h1 h2 h3 h4
    unfold unpackV
    rw [hl, if_pos h0, h0]
    exact this
  · refine (refUnpack_no a len cap W (by have := h.2; omega) h0 w).mono ?_
    rintro e w' ⟨rfl, rfl⟩
    unfold unpackV
    rw [hl, if_neg h0]
    exact ⟨none, 0, rfl, World.ownsRow_nil _ _ _ _, Below.refl _ _⟩
end Bt
end Go.Proofs.YtmnhiagppicegaaGreat

/- What runs in a list, over any memory, of bits and of the document's own answer; numbers made 0 or 1. Condition: numbers fit their kinds. -/
namespace Go.Proofs.YtmnhiagppicegaaGreat
open Go.RowKit Go.Shelf
set_option linter.unusedVariables false
namespace Bt
/-- a list of integers in a row that the call owns -/
def LsR (xs : List Int) (w : World) (e : Ending) (w' : World) : Prop :=
  ∃ ad cap, e = .returned (.slice ad xs.length cap) ∧ w'.ownsRow w.heap.size 3 1 (.slice ad xs.length cap) xs.length (xs.map (Value.int .i64)) ∧ Below w.heap.size w w'
theorem getD_mem (l : List Int) (k : Nat) (h : k < l.length) : l.getD k 0 ∈ l := by
  rw [List.getD_eq_getElem?_getD, List.getElem?_eq_getElem h]; exact List.getElem_mem _
end Bt
end Go.Proofs.YtmnhiagppicegaaGreat

/- A text as bytes: '[]byte(s)', over any memory; told in one law for the walk. Condition: the text is short. -/
namespace Go.Proofs.YtmnhiagppicegaaGreat
open Go.RowKit
set_option linter.unusedVariables false
theorem Im.bytes_below (w : World) (e : TypeId) (s : ByteArray) : Below w.heap.size w (Lib.bytesWorld w e s) :=
  ⟨by simp [Lib.bytesWorld, World.freeze, World.alloc, World.drew, -World.alloc_eq, -World.drew_eq], by simp [Lib.bytesWorld, World.freeze, World.alloc, World.drew, -World.alloc_eq, -World.drew_eq], by simp [Lib.bytesWorld, World.freeze, World.alloc, World.drew, -World.alloc_eq, -World.drew_eq], by rw [Lib.bytesWorld_size]; omega, fun k hk => Lib.bytesWorld_at_old w e s k hk⟩
theorem Im.bytes_get (s : ByteArray) (i : Nat) : (bytesOf s).getD i 0 = ((s.data.toList.getD i 0).toNat : Int) := by
  unfold bytesOf
  rw [List.getD_eq_getElem?_getD, List.getD_eq_getElem?_getD, List.getElem?_map]
  cases s.data.toList[i]? <;> rfl
end Go.Proofs.YtmnhiagppicegaaGreat

/- A row's spare bits, over any memory, of bits and of the document's own answer. Condition: numbers fit their kinds. -/
namespace Go.Proofs.YtmnhiagppicegaaGreat
open Go.RowKit Go.Shelf
set_option linter.unusedVariables false
namespace Bt
theorem num_bound : ∀ (l : List Int) (n : Int), (∀ x ∈ l, x = 0 ∨ x = 1) → 0 ≤ n → 0 ≤ num l n ∧ num l n + 1 ≤ (n + 1) * 2 ^ l.length
  | [], n, _, h => by simp [num, h]
  | x :: l, n, hx, h => by
    have h1 := hx x (by simp)
    have h2 := num_bound l (n * 2 + x) (fun y hy => hx y (by simp [hy])) (by omega)
    refine ⟨h2.1, Int.le_trans h2.2 ?_⟩
    rw [List.length_cons, Int.pow_succ, ← Int.mul_assoc, Int.mul_right_comm]
    exact Int.mul_le_mul_of_nonneg_right (by omega) (by exact Int.pow_nonneg (by omega))
end Bt
end Go.Proofs.YtmnhiagppicegaaGreat

/- How many bytes the raster of a head has, by head and by the document, over any memory. Condition: the head may be. -/
namespace Go.Proofs.YtmnhiagppicegaaGreat
open Go.RowKit
set_option linter.unusedVariables false

theorem Hj.bound3 {a b c : Int} (a0 : 1 ≤ a) (a1 : a ≤ 4096) (b0 : 1 ≤ b) (b1 : b ≤ 65536) (c0 : 1 ≤ c) (c1 : c ≤ 3) : 0 ≤ a * b ∧ a * b ≤ 268435456 ∧ 0 ≤ a * b * c ∧ a * b * c ≤ 805306368 := by
  have h1 : 0 ≤ a * b := Int.mul_nonneg (by omega) (by omega)
  have h2 : a * b ≤ 4096 * 65536 := Int.mul_le_mul a1 b1 (by omega) (by omega)
  have h3 : 0 ≤ a * b * c := Int.mul_nonneg h1 (by omega)
  have h4 : a * b * c ≤ (4096 * 65536) * 3 := Int.mul_le_mul h2 c1 (by omega) (by omega)
  omega
theorem field0_run (c m : Int) (W : World) : (Instr.field 28 (.agg #[.int .i64 c, .int .i64 m]) 0).run Tryz.prog W = .ok (.int .i64 c) W := by kernel_rfl
theorem Hj.size_small {h : Hd.H} (hk : h.kd < 4) : Hj.size h = 0 := by unfold Hj.size; rw [if_pos hk]
theorem Hj.size_4 {h : Hd.H} (hk : h.kd = 4) : Hj.size h = h.h * ((h.w + 7) / 8) := by unfold Hj.size; rw [if_neg (by omega), if_pos hk]
theorem Hj.size_5 {h : Hd.H} (hk : 4 < h.kd) : Hj.size h = h.w * h.h * Hj.chan h * (if 255 < h.m then 2 else 1) := by unfold Hj.size; rw [if_neg (by omega), if_neg (by omega)]
set_option maxRecDepth 100000 in
set_option maxHeartbeats 2000000 in
theorem hsize_any (h : Hd.H) (hm : Hd.May h) (w : World) :
    Calls Tryz.prog 105 #[agH h] w fun e w' => e = .returned (.int .i64 (Hj.size h)) ∧ Below w.heap.size w w' := by
  have HF := Lib.hid (hformat_any h hm)
  have HR := Lib.hid (hraw_any h hm)
  obtain ⟨kd, ww, hh, m⟩ := h
  obtain ⟨⟨a1, a2⟩, ⟨b1, b2⟩, ⟨c1, c2⟩, ⟨d1, d2⟩, _⟩ := hm
  simp only at a1 a2 b1 b2 c1 c2 d1 d2
  unfold agH at HF HR ⊢
  by_cases k3 : kd < 4
  · have X := Lib.hid (Hj.size_small (h := ⟨kd, ww, hh, m⟩) k3)
    simp only [decide_eq_false (show ¬ 3 < kd by omega)] at HR
    clear HF
    go_enter Tryz.func105, Tryz.ntmps105
    go_wp2_with (go_at_call 80; refine (HR.out _).mono ?_; rintro e w9 ⟨rfl, hb9⟩)
    go_ret
    exact ⟨Ar.ret_i X.out.symm, ((Below.refl _ w).alloc (Nat.le_refl _) _).trans (hb9.mono (by simp))⟩
  simp only [decide_eq_true (show 3 < kd by omega)] at HR
  by_cases k4 : kd = 4
  · have X := Lib.hid (Hj.size_4 (h := ⟨kd, ww, hh, m⟩) k4)
    subst k4
    simp only at X
    obtain ⟨q, hq⟩ : ∃ q, (ww + 7) / 8 = q := ⟨_, rfl⟩
    have q0 : 0 ≤ q := by omega
    have q1 : q ≤ 512 := by omega
    have p0 : 0 ≤ hh * q := Int.mul_nonneg (by omega) q0
    have p1 : hh * q ≤ 65536 * 512 := Int.mul_le_mul c2 q1 q0 (by omega)
    have e1 : wrap64 (ww + 7) = ww + 7 := by rw [IntWalk.wrap64_in] <;> omega
    have f1 : IntKind.i64.wrap (ww + 7) = ww + 7 := by rw [IntWalk.i64_in] <;> omega
    have e3 : (ww + 7).tdiv 8 = q := by rw [Int.tdiv_eq_ediv_of_nonneg (by omega)]; exact hq
    rw [hq] at X
    obtain ⟨r, hr⟩ : ∃ r, hh * q = r := ⟨_, rfl⟩
    rw [hr] at p0 p1 X
    have e2 : wrap64 (hh * q) = r := by rw [hr, IntWalk.wrap64_in] <;> omega
    have f2 : IntKind.i64.wrap (hh * q) = r := by rw [hr, IntWalk.i64_in] <;> omega
    have e4 : wrap64 q = q := by rw [IntWalk.wrap64_in] <;> omega
    clear HF hr p0 p1 hq
    go_enter Tryz.func105, Tryz.ntmps105
    go_wp2_with fail
    refine (HR.out _).mono ?_
    rintro e w9 ⟨rfl, hb9⟩
    obtain ⟨n0, n1, n2, n3⟩ := ((Hb.new w 49 ⟨4, ww, hh, m⟩).later hb9).cells
    go_wp2
    go_ret
    exact ⟨Ar.ret_i X.out.symm, ((Below.refl _ w).alloc (Nat.le_refl _) _).trans (hb9.mono (by simp))⟩
  · have X := Lib.hid (Hj.size_5 (h := ⟨kd, ww, hh, m⟩) (show 4 < kd by omega))
    simp only at X
    unfold Hj.fm at HF
    obtain ⟨c, hc⟩ : ∃ c, Hj.chan ⟨kd, ww, hh, m⟩ = c := ⟨_, rfl⟩
    have hcc := Hj.chan_at ⟨kd, ww, hh, m⟩
    rw [hc] at HF X hcc
    obtain ⟨t0, t1, t2, t3⟩ := Hj.bound3 (c := c) b1 b2 c1 c2 (by omega) (by omega)
    obtain ⟨r, hr⟩ : ∃ r, ww * hh = r := ⟨_, rfl⟩
    rw [hr] at t0 t1 t2 t3 X
    obtain ⟨s, hs⟩ : ∃ s, r * c = s := ⟨_, rfl⟩
    rw [hs] at t2 t3 X
    have f1 : IntKind.i64.wrap (ww * hh) = r := by rw [hr, IntWalk.i64_in] <;> omega
    have f2 : IntKind.i64.wrap (r * c) = s := by rw [hs, IntWalk.i64_in] <;> omega
    have g1 : wrap64 (ww * hh) = r := by rw [hr, IntWalk.wrap64_in] <;> omega
    have g2 : wrap64 (r * c) = s := by rw [hs, IntWalk.wrap64_in] <;> omega
    have g3 : wrap64 (s * 2) = s * 2 := by rw [IntWalk.wrap64_in] <;> omega
    have k4b : (kd == 4) = false := by simpa using k4
    have hfd := field0_run c m
    have hBt : Below w.heap.size w w := .refl _ _
    clear hc hcc hr hs t0 t1 k3 a1 a2 b1 b2 c1 c2 k4
    go_enter Tryz.func105, Tryz.ntmps105
    go_wp2_with fail
    refine (HR.out _).mono ?_
    rintro e w9 ⟨rfl, hb9⟩
    obtain ⟨n0, n1, n2, n3⟩ := ((Hb.new w 49 ⟨kd, ww, hh, m⟩).later hb9).cells
    have HBz := Lib.hid (((hBt).alloc (Nat.le_refl _) (.cells #[.int .i64 kd, .int .i64 ww, .int .i64 hh, .int .i64 m] 49)).trans (hb9.mono (by simp)))
    have hBr : Below w9.heap.size w9 w9 := .refl _ _
    clear hb9 hBt
    go_wp2_with fail
    go_cut [3] (fun s3 wx => s3 = .int .i64 s ∧ Below w9.heap.size w9 wx)
    case first =>
      go_region_held3 (fun w' => w'.cell? ⟨w.heap.size, 0, none⟩ = some (.int .i64 kd) ∧ w'.cell? ⟨w.heap.size, 1, none⟩ = some (.int .i64 ww) ∧ w'.cell? ⟨w.heap.size, 2, none⟩ = some (.int .i64 hh) ∧ w'.cell? ⟨w.heap.size, 3, none⟩ = some (.int .i64 m))
        (first | exact ⟨n0, n1, n2, n3⟩ | exact ⟨cell_later hBr n0, cell_later hBr n1, cell_later hBr n2, cell_later hBr n3⟩)
        (first | (go_at_call 59; refine (HF.out _).mono ?_; rintro e w8 ⟨rfl, hb8⟩; replace hBr := bel_step (w := w9) (by first | exact hBr | exact hBr.drew) hb8))
      all_goals
        go_wp2_with fail
        go_meet
        case rel => exact ⟨rfl, hBr⟩
    case rest =>
      obtain ⟨rfl, hBx⟩ := hcut
      have m3 := cell_later hBx n3
      have HBy := Lib.hid (HBz.out.trans (hBx.mono HBz.out.size))
      clear n0 n1 n2 n3 hBr hBx
      by_cases hm2 : 255 < m
      · have X2 : Hid (Hj.size ⟨kd, ww, hh, m⟩ = s * 2) := by show _ = _; rw [X.out, if_pos hm2]
        go_wp2
        go_ret
        exact ⟨Ar.ret_i X2.out.symm, HBy.out⟩
      · have X2 : Hid (Hj.size ⟨kd, ww, hh, m⟩ = s) := by show _ = _; rw [X.out, if_neg hm2, Int.mul_one]
        go_wp2
        go_ret
        exact ⟨Ar.ret_i X2.out.symm, HBy.out⟩
end Go.Proofs.YtmnhiagppicegaaGreat

/- Plain facts on rasters of bytes: a reader as a plain function that is told bytes one by one. No condition. -/
namespace Go.Proofs.YtmnhiagppicegaaGreat
open Go.RowKit
set_option linter.unusedVariables false
namespace Rw
/-- parts of length k, one behind the other, and what waits of the next -/
def feed (k : Nat) (t : List (List Int) × List Int) (x : Int) : List (List Int) × List Int :=
  if t.2.length + 1 = k then (t.1 ++ [t.2 ++ [x]], []) else (t.1, t.2 ++ [x])
def parts (k : Nat) (l : List Int) : List (List Int) × List Int := l.foldl (feed k) ([], [])
theorem parts_nil (k : Nat) : parts k [] = ([], []) := rfl
theorem parts_snoc (k : Nat) (l : List Int) (x : Int) : parts k (l ++ [x]) = feed k (parts k l) x := by simp [parts, List.foldl_append]
theorem parts_full {k : Nat} {l : List Int} {x : Int} (h : (parts k l).2.length + 1 = k) : parts k (l ++ [x]) = ((parts k l).1 ++ [(parts k l).2 ++ [x]], []) := by rw [parts_snoc, feed, if_pos h]
theorem parts_wait {k : Nat} {l : List Int} {x : Int} (h : ¬ (parts k l).2.length + 1 = k) : parts k (l ++ [x]) = ((parts k l).1, (parts k l).2 ++ [x]) := by rw [parts_snoc, feed, if_neg h]
theorem snoc_ind {P : List Int → Prop} (h0 : P []) (h1 : ∀ l x, P l → P (l ++ [x])) : ∀ l, P l := by
  intro l
  have : ∀ n, ∀ l : List Int, l.length = n → P l := by
    intro n
    induction n with
    | zero => intro l hl; rw [List.eq_nil_of_length_eq_zero hl]; exact h0
    | succ n ih =>
      intro l hl
      have hne : l ≠ [] := by intro e; subst e; cases hl
      rw [← List.dropLast_concat_getLast hne]
      exact h1 _ _ (ih _ (by rw [List.length_dropLast]; omega))
  exact this _ l rfl
theorem parts_at {k : Nat} (hk : 1 ≤ k) : ∀ l : List Int, (parts k l).2.length < k ∧ (parts k l).1.length * k + (parts k l).2.length = l.length ∧ (∀ p ∈ (parts k l).1, p.length = k) := by
  refine snoc_ind ⟨by simp [parts_nil]; omega, by simp [parts_nil], by simp [parts_nil]⟩ fun l x ⟨h1, h2, h3⟩ => ?_
  by_cases h : (parts k l).2.length + 1 = k
  · rw [parts_full h]
    refine ⟨by simp; omega, ?_, ?_⟩
    · simp only [List.length_append, List.length_singleton, List.length_nil, Nat.add_mul, Nat.one_mul]; omega
    · intro p hp
      rcases List.mem_append.1 hp with hp | hp
      · exact h3 p hp
      · rw [List.mem_singleton.1 hp, List.length_append, List.length_singleton]; exact h
  · rw [parts_wait h]
    exact ⟨by simp only [List.length_append, List.length_singleton]; omega, by simp only [List.length_append, List.length_singleton]; omega, h3⟩
theorem parts_one (l : List Int) : parts 1 l = (l.map (fun x => [x]), []) := by
  refine snoc_ind (P := fun l => parts 1 l = (l.map (fun x => [x]), [])) rfl (fun l x h => ?_) l
  rw [parts_full (by rw [h]; rfl), h]; simp
theorem parts_join {k : Nat} : ∀ l : List Int, (parts k l).1.flatten ++ (parts k l).2 = l := by
  refine snoc_ind rfl fun l x h => ?_
  by_cases h1 : (parts k l).2.length + 1 = k
  · rw [parts_full h1]; simp only [List.flatten_append, List.flatten_cons, List.flatten_nil, List.append_nil]; rw [← List.append_assoc, h]
  · rw [parts_wait h1]; simp only []; rw [← List.append_assoc, h]
/-- a number of its bytes, the highest first -/
def val (l : List Int) : Int := l.foldl (fun a x => a * 256 + x) 0
theorem val_one (x : Int) : val [x] = x := by simp [val]
theorem val_two (x y : Int) : val [x, y] = x * 256 + y := by simp [val]
def wide (h : Hd.H) : Nat := if 255 < h.m then 2 else 1
def chan (h : Hd.H) : Nat := if h.kd = 6 then 3 else 1
theorem wide_at (h : Hd.H) : (255 < h.m ∧ wide h = 2) ∨ (h.m ≤ 255 ∧ wide h = 1) := by unfold wide; split <;> omega
theorem chan_at (h : Hd.H) : (h.kd = 6 ∧ chan h = 3) ∨ (h.kd ≠ 6 ∧ chan h = 1) := by unfold chan; split <;> simp_all
/-- a raster's head -/
def May (h : Hd.H) : Prop := Hd.May h ∧ 4 ≤ h.kd
theorem May.m {h : Hd.H} (H : May h) : 1 ≤ h.m ∧ h.m ≤ 65535 ∧ 1 ≤ h.w ∧ h.w ≤ 4096 ∧ 1 ≤ h.h ∧ h.h ≤ 65536 ∧ 4 ≤ h.kd ∧ h.kd ≤ 6 := by
  obtain ⟨h1, h2⟩ := H
  unfold Hd.May at h1
  omega
theorem May.one {h : Hd.H} (H : May h) (h4 : h.kd = 4) : h.m = 1 ∧ wide h = 1 ∧ chan h = 1 := by
  obtain ⟨h1, h2⟩ := H
  have h3 : h.m = 1 := by
    unfold Hd.May at h1
    have hb : Hd.bits h.kd = true := by unfold Hd.bits; rw [h4]; decide
    obtain ⟨_, _, _, _, h5⟩ := h1
    first
      | exact h5 hb
      | (rcases h5 with h5 | h5
         · exact h5
         · exact absurd hb h5)
  refine ⟨h3, ?_, ?_⟩
  · unfold wide; rw [if_neg (by omega)]
  · unfold chan; rw [if_neg (by omega)]
theorem chan_eq {h : Hd.H} (H : May h) : Hj.chan h = (chan h : Int) := by
  have := H.2
  unfold Hj.chan chan
  by_cases h6 : h.kd = 6
  · rw [if_pos (.inr h6), if_pos h6]; rfl
  · rw [if_neg (by omega), if_neg h6]; rfl
/-- how many bytes a row has -/
def stride (h : Hd.H) : Nat := if h.kd = 4 then ((h.w + 7) / 8).toNat else h.w.toNat * (chan h * wide h)
/-- samples of bytes; pixels of samples; a row's pixels, as many as are whole -/
def smp (h : Hd.H) (r : List Int) : List Int := (parts (wide h) r).1.map val
def pk (p : List Int) : Int := (Pq.Px.packV p).1
def pxs (h : Hd.H) (l : List Int) : List Int := (parts (chan h) l).1.map pk
def rowV (h : Hd.H) (r : List Int) : List Int := if h.kd = 4 then ((Bt.bitsOf r).take h.w.toNat).map (fun x => pk [x]) else pxs h (smp h r)
def oneV (h : Hd.H) (r : List Int) : List Int := if h.kd = 4 then [] else (parts (chan h) (smp h r)).2
def bad (h : Hd.H) (r : List Int) (c : Int) : Prop := h.kd ≠ 4 ∧ (parts (wide h) r).2.length + 1 = wide h ∧ h.m < val ((parts (wide h) r).2 ++ [c])
instance (h : Hd.H) (r : List Int) (c : Int) : Decidable (bad h r c) := by unfold bad; infer_instance
theorem wide_pos (h : Hd.H) : 1 ≤ wide h := by have := wide_at h; omega
theorem chan_pos (h : Hd.H) : 1 ≤ chan h := by have := chan_at h; omega
theorem stride_at {h : Hd.H} (H : May h) : 1 ≤ stride h ∧ stride h ≤ 24576 ∧ (h.kd = 4 → ((stride h : Nat) : Int) = (h.w + 7) / 8) ∧ (h.kd ≠ 4 → ((stride h : Nat) : Int) = h.w * ((chan h : Int) * (wide h : Int))) := by
  have hm := H.m
  unfold stride
  by_cases h4 : h.kd = 4
  · rw [if_pos h4]; exact ⟨by omega, by omega, fun _ => by omega, fun h => absurd h4 h⟩
  · rw [if_neg h4]
    have hc := chan_at h
    have hw := wide_at h
    have e : ((h.w.toNat : Nat) : Int) = h.w := by omega
    refine ⟨?_, ?_, fun h => absurd h h4, fun _ => ?_⟩
    · rcases hc with ⟨_, hc⟩ | ⟨_, hc⟩ <;> rcases hw with ⟨_, hw⟩ | ⟨_, hw⟩ <;> rw [hc, hw] <;> omega
    · rcases hc with ⟨_, hc⟩ | ⟨_, hc⟩ <;> rcases hw with ⟨_, hw⟩ | ⟨_, hw⟩ <;> rw [hc, hw] <;> omega
    · rw [Int.natCast_mul, Int.natCast_mul, e]
theorem smp_len (h : Hd.H) (r : List Int) : (smp h r).length * wide h + (parts (wide h) r).2.length = r.length := by
  have := (parts_at (wide_pos h) r).2.1
  unfold smp; rw [List.length_map]; exact this
theorem pxs_len (h : Hd.H) (l : List Int) : (pxs h l).length * chan h + (parts (chan h) l).2.length = l.length := by
  have := (parts_at (chan_pos h) l).2.1
  unfold pxs; rw [List.length_map]; exact this
/-- how many pixels are whole -/
theorem row_len {h : Hd.H} (H : May h) (r : List Int) : (r.length < stride h → ((rowV h r).length : Int) < h.w) ∧ (r.length = stride h → ((rowV h r).length : Int) = h.w) ∧ (r.length ≤ stride h → ((rowV h r).length : Int) ≤ h.w) := by
  have hm := H.m
  have hs := stride_at H
  by_cases h4 : h.kd = 4
  · have h5 := hs.2.2.1 h4
    have e : (rowV h r).length = min h.w.toNat (8 * r.length) := by unfold rowV; rw [if_pos h4, List.length_map, List.length_take, Bt.bitsOf_len]
    rw [e]
    omega
  · have h5 := hs.2.2.2 h4
    have e : (rowV h r).length = (pxs h (smp h r)).length := by unfold rowV; rw [if_neg h4]
    rw [e]
    have a1 := smp_len h r
    have a2 := (parts_at (wide_pos h) r).1
    have a3 := pxs_len h (smp h r)
    have a4 := (parts_at (chan_pos h) (smp h r)).1
    rcases chan_at h with ⟨_, hc⟩ | ⟨_, hc⟩ <;> rcases wide_at h with ⟨_, hw⟩ | ⟨_, hw⟩ <;> simp only [hc, hw] at a1 a2 a3 a4 h5 <;> omega
theorem one_len {h : Hd.H} (r : List Int) : (oneV h r).length < chan h := by
  unfold oneV
  split
  · exact chan_pos h
  · exact (parts_at (chan_pos h) _).1
/-- a reader: its head, the bytes of its row, how many rows were told, how many bytes are left, why it is wrong -/
structure S where
  h : Hd.H
  cur : List Int
  rows : Int
  left : Int
  e : Int
def new (h : Hd.H) : S := ⟨h, [], 0, Hj.size h, 0⟩
def put (s : S) (c : Int) : S × List Int :=
  if s.left = 0 then (s, [])
  else if bad s.h s.cur c then (⟨s.h, s.cur, s.rows, 0, 5⟩, [])
  else if s.cur.length + 1 = stride s.h then (⟨s.h, [], s.rows + 1, s.left - 1, 0⟩, rowV s.h (s.cur ++ [c]))
  else (⟨s.h, s.cur ++ [c], s.rows, s.left - 1, 0⟩, [])
/-- what it is then: 0, 1 (over), 2 (wrong) -/
def last (s : S) : Int := if s.e ≠ 0 then 2 else if s.left = 0 then 1 else 0
theorem size_eq {h : Hd.H} (H : May h) : Hj.size h = h.h * (stride h : Int) := by
  have hs := stride_at H
  have hm := H.m
  by_cases h4 : h.kd = 4
  · rw [Hj.size_4 h4, hs.2.2.1 h4]
  · rw [Hj.size_5 (by omega), hs.2.2.2 h4, chan_eq H]
    have e : ((wide h : Nat) : Int) = if 255 < h.m then 2 else 1 := by unfold wide; split <;> rfl
    rw [← e]
    rw [Int.mul_comm h.w h.h, Int.mul_assoc, Int.mul_assoc]
/-- what is so of each reader -/
structure Good (s : S) : Prop where
  may : May s.h
  cur : s.cur.length < stride s.h
  byte : ∀ x ∈ s.cur, 0 ≤ x ∧ x ≤ 255
  rows0 : 0 ≤ s.rows
  rows1 : s.rows ≤ s.h.h
  e : s.e = 0 ∨ s.e = 5
  left0 : 0 ≤ s.left
  left1 : s.e = 0 → s.left + s.rows * (stride s.h : Int) + (s.cur.length : Int) = s.h.h * (stride s.h : Int)
  left5 : s.e = 5 → s.left = 0
  smp : s.h.kd ≠ 4 → ∀ x ∈ smp s.h s.cur, 0 ≤ x ∧ x ≤ s.h.m
theorem good_new {h : Hd.H} (H : May h) : Good (new h) := by
  have hm := H.m
  have hs := stride_at H
  have h0 : 0 ≤ h.h * (stride h : Int) := Int.mul_nonneg (by omega) (by omega)
  exact ⟨H, hs.1, (fun x hx => by cases hx), Int.le_refl _, by show (0 : Int) ≤ h.h; omega, .inl rfl, by show 0 ≤ Hj.size h; rw [size_eq H]; exact h0, (fun _ => by show Hj.size h + 0 * (stride h : Int) + ((0 : Nat) : Int) = h.h * (stride h : Int); rw [size_eq H]; omega), (fun h => by cases h), (fun _ x hx => by cases hx)⟩
theorem smp_more {h : Hd.H} {r : List Int} {c : Int} (H : (parts (wide h) r).2.length + 1 = wide h) : smp h (r ++ [c]) = smp h r ++ [val ((parts (wide h) r).2 ++ [c])] := by unfold smp; rw [parts_full H]; simp
theorem smp_wait {h : Hd.H} {r : List Int} {c : Int} (H : ¬ (parts (wide h) r).2.length + 1 = wide h) : smp h (r ++ [c]) = smp h r := by unfold smp; rw [parts_wait H]
theorem wait_in {h : Hd.H} {r : List Int} (hr : ∀ x ∈ r, 0 ≤ x ∧ x ≤ 255) : (parts (wide h) r).2 = [] ∨ ∃ x, (parts (wide h) r).2 = [x] ∧ 0 ≤ x ∧ x ≤ 255 ∧ wide h = 2 := by
  have h1 := (parts_at (wide_pos h) r).1
  have h2 := parts_join (k := wide h) r
  obtain ⟨l, hl⟩ : ∃ l, (parts (wide h) r).2 = l := ⟨_, rfl⟩
  rw [hl] at h1 h2 ⊢
  have hw := wide_at h
  match l, h1, h2 with
  | [], _, _ => exact .inl rfl
  | [x], h1, h2 =>
    have hx := hr x (by rw [← h2]; simp)
    exact .inr ⟨x, rfl, hx.1, hx.2, by simp at h1; omega⟩
  | x :: y :: l, h1, _ => simp at h1; omega
theorem good_put {s : S} (G : Good s) (c : Int) (c0 : 0 ≤ c) (c1 : c ≤ 255) : Good (put s c).1 := by
  have hm := G.may.m
  have hs := stride_at G.may
  have hb : ∀ x ∈ s.cur ++ [c], 0 ≤ x ∧ x ≤ 255 := fun x hx => by
    rcases List.mem_append.1 hx with hx | hx
    · exact G.byte x hx
    · rw [List.mem_singleton.1 hx]; exact ⟨c0, c1⟩
  unfold put
  split
  · exact G
  rename_i h0
  have e0 : s.e = 0 := by
    rcases G.e with h | h
    · exact h
    · exact absurd (G.left5 h) h0
  have hl := G.left1 e0
  have hl0 := G.left0
  split
  · exact ⟨G.may, G.cur, G.byte, G.rows0, G.rows1, .inr rfl, Int.le_refl _, (fun h => by cases h), fun _ => rfl, G.smp⟩
  rename_i h1
  split
  · rename_i h2
    refine ⟨G.may, hs.1, (fun x hx => by cases hx), by show 0 ≤ s.rows + 1; have := G.rows0; omega, ?_, .inl rfl, by show 0 ≤ s.left - 1; omega, fun _ => ?_, (fun h => by cases h), (fun _ x hx => by cases hx)⟩
    · show s.rows + 1 ≤ s.h.h
      have hp : (1 : Int) ≤ (stride s.h : Int) := by omega
      apply Int.not_lt.1
      intro hn
      have h3 : s.h.h ≤ s.rows := by omega
      have h4 : s.h.h * (stride s.h : Int) ≤ s.rows * (stride s.h : Int) := Int.mul_le_mul_of_nonneg_right h3 (by omega)
      omega
    · show s.left - 1 + (s.rows + 1) * (stride s.h : Int) + ((0 : Nat) : Int) = s.h.h * (stride s.h : Int)
      rw [Int.add_mul, Int.one_mul]; omega
  · rename_i h2
    refine ⟨G.may, by show (s.cur ++ [c]).length < stride s.h; rw [List.length_append, List.length_singleton]; have := G.cur; omega, hb, G.rows0, G.rows1, .inl rfl, by show 0 ≤ s.left - 1; omega, fun _ => ?_, (fun h => by cases h), fun h4 x hx => ?_⟩
    · show s.left - 1 + s.rows * (stride s.h : Int) + (((s.cur ++ [c]).length : Nat) : Int) = s.h.h * (stride s.h : Int)
      rw [List.length_append, List.length_singleton]; omega
    · replace hx : x ∈ smp s.h (s.cur ++ [c]) := hx
      by_cases hf : (parts (wide s.h) s.cur).2.length + 1 = wide s.h
      · rw [smp_more hf] at hx
        rcases List.mem_append.1 hx with hx | hx
        · exact G.smp h4 x hx
        · rw [List.mem_singleton.1 hx]
          refine ⟨?_, Int.not_lt.1 fun hn => h1 ⟨h4, hf, hn⟩⟩
          rcases wait_in (h := s.h) G.byte with e | ⟨y, e, y0, y1, _⟩
          · rw [e]; simp [val_one]; exact c0
          · rw [e]; show 0 ≤ val [y, c]; rw [val_two]; omega
      · rw [smp_wait hf] at hx; exact G.smp h4 x hx
end Rw
end Go.Proofs.YtmnhiagppicegaaGreat

/- Plain facts on rasters of digits: a reader as a plain function that is told bytes one by one. No condition. -/
namespace Go.Proofs.YtmnhiagppicegaaGreat
open Go.RowKit
set_option linter.unusedVariables false
namespace Pl
/-- a reader: its head, the number that is told, whether digits are, samples of a pixel, pixels of a row, how many rows were told, whether it is over or wrong (1, 2), why -/
structure S where
  h : Hd.H
  n : Int
  d : Bool
  one : List Int
  row : List Int
  rows : Int
  last : Int
  e : Int
def new (h : Hd.H) : S := ⟨h, 0, false, [], [], 0, 0, 0⟩
def wrong (s : S) (e : Int) : S := ⟨s.h, s.n, s.d, s.one, s.row, s.rows, 2, e⟩
def pix (s : S) (n : Int) : Int := (Pq.Px.packV (s.one ++ [n])).1
/-- a sample that ends no pixel; one that ends no row; one that ends a row -/
def more (s : S) (n : Int) : S := ⟨s.h, 0, false, s.one ++ [n], s.row, s.rows, 0, 0⟩
def pixel (s : S) (n : Int) : S := ⟨s.h, 0, false, [], s.row ++ [pix s n], s.rows, 0, 0⟩
def line (s : S) (n : Int) : S := ⟨s.h, 0, false, [], [], s.rows + 1, if s.rows + 1 = s.h.h then 1 else 0, 0⟩
def sample (s : S) (n : Int) : S × List Int :=
  if (s.one.length : Int) + 1 < Hj.chan s.h then (more s n, [])
  else if (s.row.length : Int) + 1 < s.h.w then (pixel s n, [])
  else (line s n, s.row ++ [pix s n])
def digit (s : S) (n : Int) : S := ⟨s.h, n, true, s.one, s.row, s.rows, 0, 0⟩
def put (s : S) (c : Int) : S × List Int :=
  if s.last ≠ 0 then (s, [])
  else if Tk.blank c = true then (if s.d = true then sample s s.n else (s, []))
  else if s.h.kd = 1 then (if c = 48 ∨ c = 49 then sample s (c - 48) else (wrong s 3, []))
  else if (Nu.stepV s.n c s.h.m).2 = 0 then (digit s (Nu.stepV s.n c s.h.m).1, [])
  else (wrong s (if (Nu.stepV s.n c s.h.m).2 = 4 then 5 else (Nu.stepV s.n c s.h.m).2), [])
def fin (s : S) : S × List Int :=
  if (put s 32).1.last = 0 then (wrong (put s 32).1 6, (put s 32).2) else put s 32
/-- which heads are a plain raster's -/
def May (h : Hd.H) : Prop := Hd.May h ∧ h.kd ≤ 3
/-- what is so of each reader -/
structure Good (s : S) : Prop where
  may : May s.h
  n0 : 0 ≤ s.n
  n1 : s.n ≤ s.h.m
  nd : s.d = false → s.n = 0
  kd : s.h.kd = 1 → s.d = false
  one : (s.one.length : Int) < Hj.chan s.h
  oneIn : ∀ x ∈ s.one, 0 ≤ x ∧ x ≤ s.h.m
  row : (s.row.length : Int) < s.h.w
  rows0 : 0 ≤ s.rows
  rows1 : s.last = 0 → s.rows < s.h.h
  rows2 : s.rows ≤ s.h.h
  last : s.last = 0 ∨ s.last = 1 ∨ s.last = 2
  e0 : s.last ≠ 2 → s.e = 0
  e2 : s.last = 2 → s.e = 3 ∨ s.e = 5 ∨ s.e = 6
theorem May.m {h : Hd.H} (H : May h) : 1 ≤ h.m ∧ h.m ≤ 65535 ∧ 1 ≤ h.w ∧ h.w ≤ 4096 ∧ 1 ≤ h.h ∧ h.h ≤ 65536 ∧ 1 ≤ h.kd ∧ h.kd ≤ 3 := by
  obtain ⟨h1, h2⟩ := H
  unfold Hd.May at h1
  omega
theorem good_new {h : Hd.H} (H : May h) : Good (new h) := by
  have := H.m
  have hc := Hj.chan_at h
  exact ⟨H, Int.le_refl _, by show (0 : Int) ≤ h.m; omega, fun _ => rfl, fun _ => rfl, by show ((0 : Nat) : Int) < Hj.chan h; omega, (fun x hx => by cases hx), by show ((0 : Nat) : Int) < h.w; omega, Int.le_refl _, fun _ => by show (0 : Int) < h.h; omega, by show (0 : Int) ≤ h.h; omega, .inl rfl, fun _ => rfl, (fun h => absurd h (show ¬ (0 : Int) = 2 by decide))⟩
theorem good_wrong {s : S} (H : Good s) {e : Int} (he : e = 3 ∨ e = 5 ∨ e = 6) : Good (wrong s e) :=
  ⟨H.may, H.n0, H.n1, H.nd, H.kd, H.one, H.oneIn, H.row, H.rows0, (fun h => absurd h (show ¬ (2 : Int) = 0 by decide)), H.rows2, .inr (.inr rfl), fun h => absurd rfl h, fun _ => he⟩
theorem good_sample {s : S} (H : Good s) (h0 : s.last = 0) (n : Int) (n0 : 0 ≤ n) (n1 : n ≤ s.h.m) : Good (sample s n).1 := by
  have hm := H.may.m
  have hc := Hj.chan_at s.h
  have hr := H.rows1 h0
  have hr0 := H.rows0
  have ho := H.one
  have hw := H.row
  unfold sample
  split
  · rename_i h1
    exact ⟨H.may, Int.le_refl _, by show (0 : Int) ≤ s.h.m; omega, fun _ => rfl, fun _ => rfl, by show (((s.one ++ [n]).length : Nat) : Int) < Hj.chan s.h; rw [List.length_append, List.length_singleton]; omega, (fun x hx => by
      rcases List.mem_append.1 hx with hx | hx
      · exact H.oneIn x hx
      · rw [List.mem_singleton.1 hx]; exact ⟨n0, n1⟩), H.row, H.rows0, fun _ => hr, H.rows2, .inl rfl, fun _ => rfl, (fun h => absurd h (show ¬ (0 : Int) = 2 by decide))⟩
  split
  · rename_i h1 h2
    exact ⟨H.may, Int.le_refl _, by show (0 : Int) ≤ s.h.m; omega, fun _ => rfl, fun _ => rfl, by show ((0 : Nat) : Int) < Hj.chan s.h; omega, (fun x hx => by cases hx), by show (((s.row ++ [pix s n]).length : Nat) : Int) < s.h.w; rw [List.length_append, List.length_singleton]; omega, H.rows0, fun _ => hr, H.rows2, .inl rfl, fun _ => rfl, (fun h => absurd h (show ¬ (0 : Int) = 2 by decide))⟩
  · refine ⟨H.may, Int.le_refl _, by show (0 : Int) ≤ s.h.m; omega, fun _ => rfl, fun _ => rfl, by show ((0 : Nat) : Int) < Hj.chan s.h; omega, (fun x hx => by cases hx), by show ((0 : Nat) : Int) < s.h.w; omega, by show 0 ≤ s.rows + 1; omega, ?_, by show s.rows + 1 ≤ s.h.h; omega, ?_, fun _ => rfl, ?_⟩
    · intro h
      have h : (if s.rows + 1 = s.h.h then (1 : Int) else 0) = 0 := h
      show s.rows + 1 < s.h.h
      split at h
      · cases h
      · omega
    · show (if s.rows + 1 = s.h.h then (1 : Int) else 0) = 0 ∨ (if s.rows + 1 = s.h.h then (1 : Int) else 0) = 1 ∨ _
      split
      · exact .inr (.inl rfl)
      · exact .inl rfl
    · intro h
      have h : (if s.rows + 1 = s.h.h then (1 : Int) else 0) = 2 := h
      split at h <;> cases h
theorem good_put {s : S} (H : Good s) (c : Int) : Good (put s c).1 := by
  have hm := H.may.m
  unfold put
  split
  · exact H
  rename_i h0
  have h0 : s.last = 0 := by omega
  split
  · split
    · exact good_sample H h0 s.n H.n0 H.n1
    · exact H
  split
  · split
    · exact good_sample H h0 (c - 48) (by omega) (by omega)
    · exact good_wrong H (.inl rfl)
  rename_i hk
  split
  · rename_i he
    obtain ⟨g1, g2⟩ := Nu.stepV_le s.n c s.h.m H.n0 H.n1 he
    exact ⟨H.may, g1, g2, (fun h => absurd h (show ¬ true = false by decide)), (fun h => absurd h hk), H.one, H.oneIn, H.row, H.rows0, (fun _ => H.rows1 h0), H.rows2, .inl rfl, fun _ => rfl, (fun h => absurd h (show ¬ (0 : Int) = 2 by decide))⟩
  · rename_i he
    refine good_wrong H ?_
    have := Tk.stepV_e s.n c s.h.m
    split <;> omega
end Pl
end Go.Proofs.YtmnhiagppicegaaGreat

/- Plain facts on rasters of bytes: what a byte more makes of a row. No condition. -/
namespace Go.Proofs.YtmnhiagppicegaaGreat
open Go.RowKit
set_option linter.unusedVariables false
namespace Rw
def rest (h : Hd.H) (r : List Int) : List Int := (parts (wide h) r).2
theorem row4 {h : Hd.H} (H : May h) (h4 : h.kd = 4) {r : List Int} (hr : r.length < stride h) (c : Int) {v : Nat} (hv : min 8 (h.w - ((rowV h r).length : Int)) = (v : Int)) : rowV h (r ++ [c]) = rowV h r ++ ((Bt.eight c).take v).map (fun x => pk [x]) := by
  have hs := stride_at H
  have hm := H.m
  have h5 := hs.2.2.1 h4
  have e : (rowV h r).length = min h.w.toNat (8 * r.length) := by unfold rowV; rw [if_pos h4, List.length_map, List.length_take, Bt.bitsOf_len]
  have e8 : (rowV h r).length = 8 * r.length := by rw [e]; omega
  rw [e8] at hv
  unfold rowV
  rw [if_pos h4, if_pos h4, Bt.bitsOf_append, ← List.map_append]
  congr 1
  rw [List.take_append, Bt.bitsOf_len]
  congr 1
  show List.take _ (Bt.eight c ++ []) = _
  rw [List.append_nil]
  by_cases h8 : 8 ≤ h.w.toNat - 8 * r.length
  · rw [List.take_of_length_le (by rw [Bt.eight_len]; exact h8), List.take_of_length_le (by rw [Bt.eight_len]; omega)]
  · congr 1; omega
theorem row_wait {h : Hd.H} (h4 : h.kd ≠ 4) {r : List Int} {c : Int} (hf : ¬ (rest h r).length + 1 = wide h) : rowV h (r ++ [c]) = rowV h r ∧ oneV h (r ++ [c]) = oneV h r ∧ rest h (r ++ [c]) = rest h r ++ [c] := by
  unfold rowV oneV
  rw [if_neg h4, if_neg h4, if_neg h4, if_neg h4, smp_wait hf]
  refine ⟨rfl, rfl, ?_⟩
  unfold rest; rw [parts_wait hf]
theorem row_more {h : Hd.H} (h4 : h.kd ≠ 4) {r : List Int} {c : Int} (hf : (rest h r).length + 1 = wide h) (ho : ¬ (oneV h r).length + 1 = chan h) : rowV h (r ++ [c]) = rowV h r ∧ oneV h (r ++ [c]) = oneV h r ++ [val (rest h r ++ [c])] ∧ rest h (r ++ [c]) = [] := by
  unfold oneV at ho
  rw [if_neg h4] at ho
  unfold rowV oneV pxs
  rw [if_neg h4, if_neg h4, if_neg h4, if_neg h4, smp_more hf, parts_wait ho]
  refine ⟨rfl, rfl, ?_⟩
  unfold rest; rw [parts_full hf]
theorem row_pix {h : Hd.H} (h4 : h.kd ≠ 4) {r : List Int} {c : Int} (hf : (rest h r).length + 1 = wide h) (ho : (oneV h r).length + 1 = chan h) : rowV h (r ++ [c]) = rowV h r ++ [pk (oneV h r ++ [val (rest h r ++ [c])])] ∧ oneV h (r ++ [c]) = [] ∧ rest h (r ++ [c]) = [] := by
  unfold oneV at ho
  rw [if_neg h4] at ho
  unfold rowV oneV pxs
  rw [if_neg h4, if_neg h4, if_neg h4, if_neg h4, smp_more hf, parts_full ho]
  refine ⟨?_, rfl, ?_⟩
  · rw [List.map_append]; rfl
  · unfold rest; rw [parts_full hf]
/-- a whole row leaves nothing -/
theorem row_end {h : Hd.H} (H : May h) {r : List Int} (hr : r.length = stride h) : oneV h r = [] ∧ (h.kd ≠ 4 → rest h r = []) := by
  have hm := H.m
  have hs := stride_at H
  by_cases h4 : h.kd = 4
  · exact ⟨by unfold oneV; rw [if_pos h4], fun h => absurd h4 h⟩
  · have h5 := hs.2.2.2 h4
    have a1 := smp_len h r
    have a2 := (parts_at (wide_pos h) r).1
    have a3 := pxs_len h (smp h r)
    have a4 := (parts_at (chan_pos h) (smp h r)).1
    have e1 : (parts (wide h) r).2.length = 0 := by rcases chan_at h with ⟨_, hc⟩ | ⟨_, hc⟩ <;> rcases wide_at h with ⟨_, hw⟩ | ⟨_, hw⟩ <;> simp only [hc, hw] at a1 a2 a3 a4 h5 ⊢ <;> omega
    have e2 : (parts (chan h) (smp h r)).2.length = 0 := by rcases chan_at h with ⟨_, hc⟩ | ⟨_, hc⟩ <;> rcases wide_at h with ⟨_, hw⟩ | ⟨_, hw⟩ <;> simp only [hc, hw] at a1 a2 a3 a4 h5 ⊢ <;> omega
    exact ⟨by unfold oneV; rw [if_neg h4]; exact List.eq_nil_of_length_eq_zero e2, fun _ => List.eq_nil_of_length_eq_zero e1⟩
theorem rowV_nil (h : Hd.H) : rowV h [] = [] := by
  unfold rowV
  split
  · simp [Bt.bitsOf]
  · rfl
theorem oneV_nil (h : Hd.H) : oneV h [] = [] := by unfold oneV; split <;> rfl
end Rw
end Go.Proofs.YtmnhiagppicegaaGreat

/- When two lists of numbers are the same, by the document's own answer, over any memory; and its example. Condition: a length fits an int. -/
namespace Go.Proofs.YtmnhiagppicegaaGreat
open Go.RowKit
set_option linter.unusedVariables false
namespace Pq
/-- two lists are the same up to k -/
def Alike (x y : List Int) (k : Nat) : Prop := ∀ i, i < k → x.getD i 0 = y.getD i 0
theorem alike_all {x y : List Int} {n : Nat} (hx : x.length = n) (hy : y.length = n) (h : Alike x y n) : x = y := by
  refine List.ext_getElem (by rw [hx, hy]) fun i h1 h2 => ?_
  have := h i (by omega)
  rw [List.getD_eq_getElem?_getD, List.getD_eq_getElem?_getD, List.getElem?_eq_getElem h1, List.getElem?_eq_getElem h2] at this
  simpa using this
theorem alike_succ {x y : List Int} {k : Nat} (h : Alike x y k) (e : x.getD k 0 = y.getD k 0) : Alike x y (k + 1) := fun i hi => by
  rcases Nat.lt_or_ge i k with h1 | h1
  · exact h i h1
  · obtain rfl : i = k := by omega
    exact e

end Pq
end Go.Proofs.YtmnhiagppicegaaGreat

/- What a law's walk is told of a slice of integers that came in, and what follows of it. No condition. -/
namespace Go.Proofs.YtmnhiagppicegaaGreat
open Go.RowKit
set_option linter.unusedVariables false
namespace Pq
/-- It is nil; or it leads to a row of 'cap' cells, the numbers 'zs' (the first 'len' are its elements), each fitting its kind. -/
def IsRow (k : IntKind) (w : World) (a : Option Addr) (len cap : Nat) (zs : List Int) : Prop :=
  (a = none ∧ len = 0 ∧ cap = 0 ∧ zs = []) ∨
  ∃ x, a = some x ∧ len ≤ cap ∧ cap ≤ maxLen ∧ zs.length = cap ∧ (∀ i, i < zs.length → w.cell? (x.add i) = some (.int k (zs.getD i 0))) ∧ ∀ n ∈ zs, (Lit.int k n).wf = true
theorem isrow_len {k : IntKind} {w : World} {a : Option Addr} {len cap : Nat} {zs : List Int} (h : IsRow k w a len cap zs) : len ≤ 9223372036854775807 ∧ len ≤ zs.length ∧ len ≤ cap ∧ cap ≤ 9223372036854775807 := by
  rcases h with ⟨_, rfl, rfl, rfl⟩ | ⟨x, _, h1, h2, h3, _⟩
  · simp
  · unfold maxLen at h2; omega
end Pq
end Go.Proofs.YtmnhiagppicegaaGreat

/- What Good of the document's own answer comes to: a pixel of a format, made of any numbers, over any memory. Condition: the format may be; numbers fit their kinds. -/
namespace Go.Proofs.YtmnhiagppicegaaGreat
open Go.RowKit
set_option linter.unusedVariables false
attribute [local go_sem ↓] Go.wp_at_zero Go.wp_at_succ
namespace Pq
set_option maxHeartbeats 2000000 in
theorem good33 (b o cap n : Nat) (x y z m : Int) (hn : 3 ≤ n) (hn' : n ≤ 9223372036854775807) (hx : Px.I x) (hy : Px.I y) (hz : Px.I z) (m0 : 0 ≤ m) (m1 : m ≤ 65535) (w : World) (c0 : w.cell? ⟨b, o, none⟩ = some (.int .i64 x)) (c1 : w.cell? ⟨b, o + 1, none⟩ = some (.int .i64 y)) (c2 : w.cell? ⟨b, o + 2, none⟩ = some (.int .i64 z)) :
    Calls Tryz.prog 47 #[.slice (some ⟨b, o, none⟩) n cap, .agg #[.int .i64 3, .int .i64 m]] w fun e w' => e = .returned (.int .u64 (Px.packV [Px.aroundV x (m + 1), Px.aroundV y (m + 1), Px.aroundV z (m + 1)]).1) ∧ Below w.heap.size w w' := by
  have hmk : ∀ w, (Instr.makeSlice 22 (.int .i64 3) (.int .i64 3)).run Tryz.prog w = .ok (.slice (some ⟨w.heap.size, 0, none⟩) 3 3) (w.alloc (.cells #[.int .i64 0, .int .i64 0, .int .i64 0] 3)) := fun _ => by kernel_rfl
  have hwr : IntKind.i64.wrap (m + 1) = m + 1 := IntWalk.i64_in _ (by omega)
  have n0 : (0 : Int) < n := by omega
  have n1 : (1 : Int) < n := by omega
  have n2 : (2 : Int) < n := by omega
  have hb : b < w.heap.size := block_lt_of_cell c0
  obtain ⟨x', hx'⟩ : ∃ v, Px.aroundV x (m + 1) = v := ⟨_, rfl⟩
  have HX := Lib.hid hx'; clear hx'
  obtain ⟨y', hy'⟩ : ∃ v, Px.aroundV y (m + 1) = v := ⟨_, rfl⟩
  have HY := Lib.hid hy'; clear hy'
  obtain ⟨z', hz'⟩ : ∃ v, Px.aroundV z (m + 1) = v := ⟨_, rfl⟩
  have HZ := Lib.hid hz'; clear hz'
  rw [HX.out, HY.out, HZ.out]
  go_enter Tryz.func47, Tryz.ntmps47
  go_wp2
  refine wp_loop_rounds 4 ?_
  rw [rounds_succ]
  go_wp2
  go_region_held3 (fun w' => w'.cell? ⟨b, o, none⟩ = some (.int .i64 x) ∧ w'.cell? ⟨b, o + 1, none⟩ = some (.int .i64 y) ∧ w'.cell? ⟨b, o + 2, none⟩ = some (.int .i64 z) ∧ w'.cell? ⟨w.heap.size, 1, none⟩ = some (.int .i64 m)) (go_keep)
    (first | (go_at_call 11; refine (around_any _ _ hx (by omega) (by omega) _).mono ?_; rw [HX.out]; rintro e w9 ⟨rfl, rfl⟩))
  go_wp2
  rw [rounds_succ]
  go_wp2
  go_region_held3 (fun w' => w'.cell? ⟨b, o, none⟩ = some (.int .i64 x) ∧ w'.cell? ⟨b, o + 1, none⟩ = some (.int .i64 y) ∧ w'.cell? ⟨b, o + 2, none⟩ = some (.int .i64 z) ∧ w'.cell? ⟨w.heap.size, 1, none⟩ = some (.int .i64 m)) (go_keep)
    (first | (go_at_call 11; refine (around_any _ _ hy (by omega) (by omega) _).mono ?_; rw [HY.out]; rintro e w9 ⟨rfl, rfl⟩))
  go_wp2
  rw [rounds_succ]
  go_wp2
  go_region_held3 (fun w' => w'.cell? ⟨b, o, none⟩ = some (.int .i64 x) ∧ w'.cell? ⟨b, o + 1, none⟩ = some (.int .i64 y) ∧ w'.cell? ⟨b, o + 2, none⟩ = some (.int .i64 z) ∧ w'.cell? ⟨w.heap.size, 1, none⟩ = some (.int .i64 m)) (go_keep)
    (first | (go_at_call 11; refine (around_any _ _ hz (by omega) (by omega) _).mono ?_; rw [HZ.out]; rintro e w9 ⟨rfl, rfl⟩))
  go_wp2
  rw [rounds_succ]
  go_wp2_with (go_at_call 65; refine (refPack_any _ _ _ [x', y', z'] _ (by omega) ?_).mono ?_; (exact sl3 (by simp [go_sem]) (by simp [go_sem]) (by simp [go_sem])); rintro e w9 ⟨rfl, rfl⟩)
  go_ret
  exact ⟨rfl, by go_grown⟩

set_option maxHeartbeats 2000000 in
theorem good32 (b o cap : Nat) (x y m : Int) (hx : Px.I x) (hy : Px.I y) (m0 : 0 ≤ m) (m1 : m ≤ 65535) (w : World) (c0 : w.cell? ⟨b, o, none⟩ = some (.int .i64 x)) (c1 : w.cell? ⟨b, o + 1, none⟩ = some (.int .i64 y)) :
    Calls Tryz.prog 47 #[.slice (some ⟨b, o, none⟩) 2 cap, .agg #[.int .i64 3, .int .i64 m]] w fun e w' => e = .returned (.int .u64 (Px.packV [Px.aroundV x (m + 1), Px.aroundV y (m + 1), 0]).1) ∧ Below w.heap.size w w' := by
  have hmk : ∀ w, (Instr.makeSlice 22 (.int .i64 3) (.int .i64 3)).run Tryz.prog w = .ok (.slice (some ⟨w.heap.size, 0, none⟩) 3 3) (w.alloc (.cells #[.int .i64 0, .int .i64 0, .int .i64 0] 3)) := fun _ => by kernel_rfl
  have hwr : IntKind.i64.wrap (m + 1) = m + 1 := IntWalk.i64_in _ (by omega)
  have hb : b < w.heap.size := block_lt_of_cell c0
  obtain ⟨x', hx'⟩ : ∃ v, Px.aroundV x (m + 1) = v := ⟨_, rfl⟩
  have HX := Lib.hid hx'; clear hx'
  obtain ⟨y', hy'⟩ : ∃ v, Px.aroundV y (m + 1) = v := ⟨_, rfl⟩
  have HY := Lib.hid hy'; clear hy'
  rw [HX.out, HY.out]
  go_enter Tryz.func47, Tryz.ntmps47
  go_wp2
  refine wp_loop_rounds 3 ?_
  rw [rounds_succ]
  go_wp2
  go_region_held3 (fun w' => w'.cell? ⟨b, o, none⟩ = some (.int .i64 x) ∧ w'.cell? ⟨b, o + 1, none⟩ = some (.int .i64 y) ∧ w'.cell? ⟨w.heap.size, 1, none⟩ = some (.int .i64 m)) (go_keep)
    (first | (go_at_call 11; refine (around_any _ _ hx (by omega) (by omega) _).mono ?_; rw [HX.out]; rintro e w9 ⟨rfl, rfl⟩))
  go_wp2
  rw [rounds_succ]
  go_wp2
  go_region_held3 (fun w' => w'.cell? ⟨b, o, none⟩ = some (.int .i64 x) ∧ w'.cell? ⟨b, o + 1, none⟩ = some (.int .i64 y) ∧ w'.cell? ⟨w.heap.size, 1, none⟩ = some (.int .i64 m)) (go_keep)
    (first | (go_at_call 11; refine (around_any _ _ hy (by omega) (by omega) _).mono ?_; rw [HY.out]; rintro e w9 ⟨rfl, rfl⟩))
  go_wp2
  rw [rounds_succ]
  go_wp2_with (go_at_call 65; refine (refPack_any _ _ _ [x', y', 0] _ (by omega) ?_).mono ?_; (exact sl3 (by simp [go_sem]) (by simp [go_sem]) (by simp [go_sem])); rintro e w9 ⟨rfl, rfl⟩)
  go_ret
  exact ⟨rfl, by go_grown⟩

set_option maxHeartbeats 2000000 in
theorem good31 (b o cap : Nat) (x m : Int) (hx : Px.I x) (m0 : 0 ≤ m) (m1 : m ≤ 65535) (w : World) (c0 : w.cell? ⟨b, o, none⟩ = some (.int .i64 x)) :
    Calls Tryz.prog 47 #[.slice (some ⟨b, o, none⟩) 1 cap, .agg #[.int .i64 3, .int .i64 m]] w fun e w' => e = .returned (.int .u64 (Px.packV [Px.aroundV x (m + 1), 0, 0]).1) ∧ Below w.heap.size w w' := by
  have hmk : ∀ w, (Instr.makeSlice 22 (.int .i64 3) (.int .i64 3)).run Tryz.prog w = .ok (.slice (some ⟨w.heap.size, 0, none⟩) 3 3) (w.alloc (.cells #[.int .i64 0, .int .i64 0, .int .i64 0] 3)) := fun _ => by kernel_rfl
  have hwr : IntKind.i64.wrap (m + 1) = m + 1 := IntWalk.i64_in _ (by omega)
  have hb : b < w.heap.size := block_lt_of_cell c0
  obtain ⟨x', hx'⟩ : ∃ v, Px.aroundV x (m + 1) = v := ⟨_, rfl⟩
  have HX := Lib.hid hx'; clear hx'
  rw [HX.out]
  go_enter Tryz.func47, Tryz.ntmps47
  go_wp2
  refine wp_loop_rounds 2 ?_
  rw [rounds_succ]
  go_wp2
  go_region_held3 (fun w' => w'.cell? ⟨b, o, none⟩ = some (.int .i64 x) ∧ w'.cell? ⟨w.heap.size, 1, none⟩ = some (.int .i64 m)) (go_keep)
    (first | (go_at_call 11; refine (around_any _ _ hx (by omega) (by omega) _).mono ?_; rw [HX.out]; rintro e w9 ⟨rfl, rfl⟩))
  go_wp2
  rw [rounds_succ]
  go_wp2_with (go_at_call 65; refine (refPack_any _ _ _ [x', 0, 0] _ (by omega) ?_).mono ?_; (exact sl3 (by simp [go_sem]) (by simp [go_sem]) (by simp [go_sem])); rintro e w9 ⟨rfl, rfl⟩)
  go_ret
  exact ⟨rfl, by go_grown⟩

set_option maxHeartbeats 2000000 in
theorem good30 (ao : Option Addr) (cap : Nat) (m : Int)  (m0 : 0 ≤ m) (m1 : m ≤ 65535) (w : World)  :
    Calls Tryz.prog 47 #[.slice ao 0 cap, .agg #[.int .i64 3, .int .i64 m]] w fun e w' => e = .returned (.int .u64 (Px.packV [0, 0, 0]).1) ∧ Below w.heap.size w w' := by
  have hmk : ∀ w, (Instr.makeSlice 22 (.int .i64 3) (.int .i64 3)).run Tryz.prog w = .ok (.slice (some ⟨w.heap.size, 0, none⟩) 3 3) (w.alloc (.cells #[.int .i64 0, .int .i64 0, .int .i64 0] 3)) := fun _ => by kernel_rfl
  have hwr : IntKind.i64.wrap (m + 1) = m + 1 := IntWalk.i64_in _ (by omega)
  go_enter Tryz.func47, Tryz.ntmps47
  go_wp2
  refine wp_loop_rounds 1 ?_
  rw [rounds_succ]
  go_wp2_with (go_at_call 65; refine (refPack_any _ _ _ [0, 0, 0] _ (by omega) ?_).mono ?_; (exact sl3 (by simp [go_sem]) (by simp [go_sem]) (by simp [go_sem])); rintro e w9 ⟨rfl, rfl⟩)
  go_ret
  exact ⟨rfl, by go_grown⟩

set_option maxHeartbeats 2000000 in
theorem good11 (b o cap n : Nat) (x m : Int) (hn : 1 ≤ n) (hn' : n ≤ 9223372036854775807) (hx : Px.I x) (m0 : 0 ≤ m) (m1 : m ≤ 65535) (w : World) (c0 : w.cell? ⟨b, o, none⟩ = some (.int .i64 x)) :
    Calls Tryz.prog 47 #[.slice (some ⟨b, o, none⟩) n cap, .agg #[.int .i64 1, .int .i64 m]] w fun e w' => e = .returned (.int .u64 (Px.packV [Px.aroundV x (m + 1)]).1) ∧ Below w.heap.size w w' := by
  have hmk : ∀ w, (Instr.makeSlice 22 (.int .i64 1) (.int .i64 1)).run Tryz.prog w = .ok (.slice (some ⟨w.heap.size, 0, none⟩) 1 1) (w.alloc (.cells #[.int .i64 0] 3)) := fun _ => by kernel_rfl
  have hwr : IntKind.i64.wrap (m + 1) = m + 1 := IntWalk.i64_in _ (by omega)
  have n0 : (0 : Int) < n := by omega
  have hb : b < w.heap.size := block_lt_of_cell c0
  obtain ⟨x', hx'⟩ : ∃ v, Px.aroundV x (m + 1) = v := ⟨_, rfl⟩
  have HX := Lib.hid hx'; clear hx'
  rw [HX.out]
  go_enter Tryz.func47, Tryz.ntmps47
  go_wp2
  refine wp_loop_rounds 2 ?_
  rw [rounds_succ]
  go_wp2
  go_region_held3 (fun w' => w'.cell? ⟨b, o, none⟩ = some (.int .i64 x) ∧ w'.cell? ⟨w.heap.size, 1, none⟩ = some (.int .i64 m)) (go_keep)
    (first | (go_at_call 11; refine (around_any _ _ hx (by omega) (by omega) _).mono ?_; rw [HX.out]; rintro e w9 ⟨rfl, rfl⟩))
  go_wp2
  rw [rounds_succ]
  go_wp2_with (go_at_call 65; refine (refPack_any _ _ _ [x'] _ (by omega) ?_).mono ?_; (exact sl1 (by simp [go_sem])); rintro e w9 ⟨rfl, rfl⟩)
  go_ret
  exact ⟨rfl, by go_grown⟩

set_option maxHeartbeats 2000000 in
theorem good10 (ao : Option Addr) (cap : Nat) (m : Int)  (m0 : 0 ≤ m) (m1 : m ≤ 65535) (w : World)  :
    Calls Tryz.prog 47 #[.slice ao 0 cap, .agg #[.int .i64 1, .int .i64 m]] w fun e w' => e = .returned (.int .u64 (Px.packV [0]).1) ∧ Below w.heap.size w w' := by
  have hmk : ∀ w, (Instr.makeSlice 22 (.int .i64 1) (.int .i64 1)).run Tryz.prog w = .ok (.slice (some ⟨w.heap.size, 0, none⟩) 1 1) (w.alloc (.cells #[.int .i64 0] 3)) := fun _ => by kernel_rfl
  have hwr : IntKind.i64.wrap (m + 1) = m + 1 := IntWalk.i64_in _ (by omega)
  go_enter Tryz.func47, Tryz.ntmps47
  go_wp2
  refine wp_loop_rounds 1 ?_
  rw [rounds_succ]
  go_wp2_with (go_at_call 65; refine (refPack_any _ _ _ [0] _ (by omega) ?_).mono ?_; (exact sl1 (by simp [go_sem])); rintro e w9 ⟨rfl, rfl⟩)
  go_ret
  exact ⟨rfl, by go_grown⟩

end Pq
end Go.Proofs.YtmnhiagppicegaaGreat

/- What Good of the document's own answer comes to, whatever numbers it is handed; and that it is a pixel of the format. Condition: the format may be; numbers fit their kinds. -/
namespace Go.Proofs.YtmnhiagppicegaaGreat
open Go.RowKit
set_option linter.unusedVariables false
namespace Pq
theorem good_sl (a : Option Addr) (len cap : Nat) (l : List Int) (c m : Int) (hl : len ≤ 9223372036854775807) (hI : ∀ z ∈ l, Px.I z) (hc : c = 1 ∨ c = 3) (m0 : 0 ≤ m) (m1 : m ≤ 65535) (w : World) (hs : Sl w a len l) :
    Calls Tryz.prog 47 #[.slice a len cap, .agg #[.int .i64 c, .int .i64 m]] w fun e w' => e = .returned (.int .u64 (Px.goodV l c m)) ∧ Below w.heap.size w w' := by
  obtain ⟨hz, hcell⟩ := hs
  match l, hz with
  | [], hz =>
    obtain rfl : len = 0 := by simpa using hz.symm
    rcases hc with rfl | rfl
    · exact good10 a cap m m0 m1 w
    · exact good30 a cap m m0 m1 w
  | x :: r, hz =>
    rcases hcell with hcell | ⟨b, o, rfl, hcell⟩
    · simp at hz; omega
    have hx := hI x (by simp)
    have c0 : w.cell? ⟨b, o, none⟩ = some (.int .i64 x) := by simpa using hcell 0 (by simp at hz; omega)
    rcases hc with rfl | rfl
    · exact good11 b o cap len x m (by simp at hz; omega) hl hx m0 m1 w c0
    · match r, hz with
      | [], hz =>
        obtain rfl : len = 1 := by simpa using hz.symm
        exact good31 b o cap x m hx m0 m1 w c0
      | y :: r, hz =>
        have hy := hI y (by simp)
        have c1 : w.cell? ⟨b, o + 1, none⟩ = some (.int .i64 y) := by simpa using hcell 1 (by simp at hz; omega)
        match r, hz with
        | [], hz =>
          obtain rfl : len = 2 := by simpa using hz.symm
          exact good32 b o cap x y m hx hy m0 m1 w c0 c1
        | z :: r, hz =>
          have hzz := hI z (by simp)
          have c2 : w.cell? ⟨b, o + 2, none⟩ = some (.int .i64 z) := by simpa using hcell 2 (by simp at hz; omega)
          exact good33 b o cap len x y z m (by simp at hz; omega) hl hx hy hzz m0 m1 w c0 c1 c2

/-- a pixel of a format that may be -/
def GoodP (p c m : Int) : Prop := (c = 3 ∧ ∃ x y z, Px.Is3 p x y z ∧ x ≤ m ∧ y ≤ m ∧ z ≤ m) ∨ (c = 1 ∧ ∃ x, Px.Is1 p x ∧ x ≤ m)
theorem goodL_in (m : Int) (m0 : 0 ≤ m) : ∀ (k : Nat) (zs : List Int), ∀ z ∈ Px.goodL zs m k, 0 ≤ z ∧ z ≤ m
  | 0, _, z, h => by cases h
  | k + 1, zs, z, h => by
    unfold Px.goodL at h
    rcases List.mem_cons.1 h with h | h
    · subst h
      cases zs with
      | nil => exact ⟨Int.le_refl _, m0⟩
      | cons x r => have := Px.around_lt x (m + 1) (by omega); simp only []; omega
    · exact goodL_in m m0 k zs.tail z h
theorem goodL_len (m : Int) : ∀ (k : Nat) (zs : List Int), (Px.goodL zs m k).length = k
  | 0, _ => rfl
  | k + 1, zs => by unfold Px.goodL; simp [goodL_len m k zs.tail]
theorem good_is (l : List Int) {c m : Int} (hc : c = 1 ∨ c = 3) (m0 : 0 ≤ m) (m1 : m ≤ 65535) : GoodP (Px.goodV l c m) c m := by
  have hin := goodL_in m m0 c.toNat l
  have hln := goodL_len m c.toNat l
  unfold Px.goodV
  generalize Px.goodL l m c.toNat = q at *
  rcases hc with rfl | rfl
  · match q, hln with
    | [x], _ =>
      have hx := hin x (by simp)
      rw [Px.packV1 (by omega) (by omega)]
      exact .inr ⟨rfl, x, ⟨rfl, by omega, by omega⟩, hx.2⟩
  · match q, hln with
    | [x, y, z], _ =>
      have hx := hin x (by simp)
      have hy := hin y (by simp)
      have hz := hin z (by simp)
      rw [Px.packV3 (by omega) (by omega) (by omega) (by omega) (by omega) (by omega)]
      exact .inl ⟨rfl, x, y, z, ⟨rfl, by omega, by omega, by omega, by omega, by omega, by omega⟩, hx.2, hy.2, hz.2⟩
theorem goodU {p c m : Int} (h : GoodP p c m) : Px.U p := by
  rcases h with ⟨_, x, y, z, h, _⟩ | ⟨_, x, h, _⟩
  · exact isU3 h
  · exact isU1 h
end Pq
end Go.Proofs.YtmnhiagppicegaaGreat

/- What runs in a list, over any memory, of bits. Condition: numbers fit their kinds. -/
namespace Go.Proofs.YtmnhiagppicegaaGreat
open Go.RowKit Go.Shelf
set_option linter.unusedVariables false
namespace Bt
end Bt
end Go.Proofs.YtmnhiagppicegaaGreat

/- What runs in a list, by the document's own answer, over any memory. Condition: numbers fit their kinds. -/
namespace Go.Proofs.YtmnhiagppicegaaGreat
open Go.RowKit Go.Shelf
set_option linter.unusedVariables false
namespace Bt
end Bt
end Go.Proofs.YtmnhiagppicegaaGreat

/- What has such runs, over any memory, of bits and of the document's own answer. Condition: numbers fit their kinds. -/
namespace Go.Proofs.YtmnhiagppicegaaGreat
open Go.RowKit Go.Shelf
set_option linter.unusedVariables false
namespace Bt
end Bt
end Go.Proofs.YtmnhiagppicegaaGreat

/- How many digits pixels have, over any memory. Condition: not too many pixels. -/
namespace Go.Proofs.YtmnhiagppicegaaGreat
open Go.RowKit
set_option linter.unusedVariables false
namespace Pl
theorem take_getD (l : List Int) (k : Nat) (h : k < l.length) : l.take (k + 1) = l.take k ++ [l.getD k 0] := by
  rw [List.take_succ_eq_append_getElem h, List.getD_eq_getElem?_getD, List.getElem?_eq_getElem h]; rfl
theorem decV_len (n : Int) : ((Nu.decV n).length : Int) = Nu.places n := by
  unfold Nu.decV Nu.backV Nu.places
  rw [List.length_reverse, List.length_append, List.length_map]
  split <;> simp <;> omega
theorem smp_in {p : Int} (hU : Pq.Px.U p) : (Pq.Px.smp p).length ≤ 3 ∧ ∀ s ∈ Pq.Px.smp p, 0 ≤ s ∧ s ≤ 65535 := by
  rcases Pq.Px.tri hU with ⟨a, b, c, h⟩ | ⟨a, h⟩ | h
  · rw [Pq.Px.smp3 h]
    obtain ⟨_, h⟩ := h
    refine ⟨by simp, fun s hs => ?_⟩
    simp only [List.mem_cons, List.not_mem_nil, or_false] at hs
    omega
  · rw [Pq.Px.smp1 h]
    obtain ⟨_, h⟩ := h
    refine ⟨by simp, fun s hs => ?_⟩
    simp only [List.mem_cons, List.not_mem_nil, or_false] at hs
    omega
  · rw [Pq.Px.smp0 h]
    exact ⟨by simp, fun s hs => by cases hs⟩
theorem smp_I {p : Int} (hU : Pq.Px.U p) : ∀ s ∈ Pq.Px.smp p, Nu.I s := fun s hs => by have := (smp_in hU).2 s hs; unfold Nu.I; omega
end Pl
theorem getD_mem {l : List Int} {k : Nat} (h : k < l.length) : l.getD k 0 ∈ l := by
  rw [List.getD_eq_getElem?_getD, List.getElem?_eq_getElem h]; exact List.getElem_mem h
end Go.Proofs.YtmnhiagppicegaaGreat

/- A reader of a head is told the byte that ends a number, over any memory. Condition: its limits are such as may be. -/
namespace Go.Proofs.YtmnhiagppicegaaGreat
open Go.RowKit
set_option linter.unusedVariables false

set_option maxHeartbeats 4000000 in
theorem in_num02 {l : Hd.L} (hl : l.Ok) (kd v0 v1 v2 er : Int) (u : Tk.S) (hG : Hd.Good l ⟨3, kd, 0, v0, v1, v2, u, er⟩) (hm : Hd.many kd = 2) (c : Int) (c0 : 0 ≤ c) (c1 : c ≤ 255) (t : Tk.S) (ht : Tk.put (l.at 0) u c = t) (hk : t.k = 4) (hn : t.n ≠ 0) (w : World) (b n : Nat) (h : HdX 0 w b n l ⟨3, kd, 0, v0, v1, v2, u, er⟩) :
    Calls Tryz.prog 204 #[.pointer (some ⟨b, 0, none⟩), .int .u8 c] w (InR w b n l (Hd.S.num ⟨3, kd, 0, v0, v1, v2, u, er⟩ t.n)) := by
  have hT := Tk.good_put (hG.2.1 (Nat.le_refl 3)).1 c
  have hG' := Hd.good_take hl (hG.2.2.2.2.1 (Nat.le_succ 2) (Nat.le_succ 3)) (hG.2.2.2.2.2.1 (Nat.le_refl 3)) hT
  rw [show Tk.put (l.at 0) u c = t from ht] at hT
  rw [show Tk.put _ _ c = t from ht, show Hd.take ⟨3, kd, 0, v0, v1, v2, u, er⟩ t = Hd.S.num ⟨3, kd, 0, v0, v1, v2, u, er⟩ t.n by unfold Hd.take; rw [if_neg (by omega), if_pos hk, if_neg hn]] at hG'
  have hv := Tk.val_over hT hk
  have hz : (t.n == 0) = false := by simpa using hn
  obtain ⟨_, nv, f, x, h1, h2, h3, h4⟩ := h
  obtain ⟨rfl, hr, hne⟩ := h2 rfl
  have hx := h3 (Nat.le_refl 3)
  have h1' : HdC w b kd l.m0 l.m1 l.m2 v0 v1 v2 0 (.pointer (some ⟨n, 0, none⟩)) 0 f x := h1
  have hc8 := h1'.c8
  have HC := Lib.hid (tokC (n := n) (hG.2.1 (Nat.le_refl 3)).1 hl c0 c1 ht (Tk.st_over hk))
  have HV : Hid (∀ W, RdS W n (l.at 0) t → Calls Tryz.prog 211 #[.pointer (some ⟨n, 0, none⟩)] W fun e w' => e = .returned (.tuple #[.int .i64 t.n, .int .i64 0]) ∧ W.grownBy w' none) := fun W hr => (value_s hr).mono fun e w' hh => ⟨by rw [hh.1, hv], hh.2⟩
  have HN : Hid (∀ W, Calls Tryz.prog 212 #[.int .i64 kd] W fun e w' => e = .returned (.int .i64 2) ∧ W = w') := fun W => by have := numbers_any kd W; rw [hm] at this; exact this
  have HR := Lib.hid (show RdS w n (l.at 0) u from hr)
  have HX := Lib.hid hx
  unfold Hd.S.num at hG' ⊢
  rw [hm] at hG' ⊢
  obtain ⟨k, hkk⟩ : ∃ k, t.n = k := ⟨_, rfl⟩
  rw [hkk] at HV hz hG' ⊢
  have HG' : Hid (Hd.Good l ⟨3, kd, 1, k, v1, v2, Tk.new, er⟩) := hG'
  show Calls _ _ _ _ (InR w b n l ⟨3, kd, 1, k, v1, v2, Tk.new, er⟩)
  have HB := Lib.hid (fun W x nv h => hbegin1_any W b kd l.m0 l.m1 l.m2 k v1 v2 nv 0 f x h (by have := Hd.L.at_ok hl 1; unfold Hd.L.at at this; simp at this; omega))
  have H1 := Lib.hid h1'
  have hblt := h1'.lt
  clear h1 h1' hr h2 h3 h4 hG hl ht hk hG' hT hv hn hm hx
  go_enter Tryz.func204, Tryz.ntmps204
  go_wp2_with fail
  refine (HC.out _ HR.out).mono ?_
  rintro e1 w1 ⟨rfl, hr, hg⟩
  have HR1 := Lib.hid hr
  have HG1 := Lib.hid hg
  have h2 := H1.out.kept hg (some_ne (Ne.symm hne))
  have hd8 := h2.c8
  have H2 := Lib.hid h2
  clear hr hg h2 hc8
  go_wp2_with fail
  refine (HV.out _ HR1.out).mono ?_
  rintro e1 w2 ⟨rfl, hg⟩
  have HG2 := Lib.hid hg
  have h3 := H2.out.kept hg (by simp)
  have e0 := h3.c0
  have e7 := h3.c7
  have eN := h3.c4
  have fr7 := h3.fr 7
  have frN := h3.fr 4
  have hlt2 := h3.lt
  have H4 : Hid (HdC ((w2.setCell ⟨b, 4, none⟩ (.int .i64 k)).setCell ⟨b, 7, none⟩ (.int .i64 1)).drew b kd l.m0 l.m1 l.m2 k v1 v2 1 (.pointer (some ⟨n, 0, none⟩)) 0 f x) := (h3.put4 k).put7 1
  have SEP4 : Hid (Sep (two b n) w2 ((w2.setCell ⟨b, 4, none⟩ (.int .i64 k)).setCell ⟨b, 7, none⟩ (.int .i64 1)).drew) := by
    show Sep _ _ _
    exact ((Sep.setCell w2 (.inl rfl) _).trans (.setCell _ (.inl rfl) _)).trans (.drew _ _)
  clear hg h3 hd8
  go_wp2_with fail
  go_region_with (fail)
  all_goals
    go_wp2_with fail
    generalize ((w2.setCell ⟨b, 4, none⟩ (.int .i64 k)).setCell ⟨b, 7, none⟩ (.int .i64 1)).drew = w4 at H4 SEP4 ⊢
    have q0 := H4.out.c0
    have q7 := H4.out.c7
    have LTB := Lib.hid (show b < w4.heap.size from H4.out.lt)
    have LE5 := Lib.hid (show w.heap.size ≤ w4.heap.size from Nat.le_trans HG1.out.size (Nat.le_trans HG2.out.size SEP4.out.size))
    go_quiet ((go_at_call 212; exact Calls.quiet_of_same ((HN.out _).mono fun e w' hh => ⟨hh.1, hh.2.symm⟩)))
    go_wp2_with fail
    refine (HB.out _ _ _ (H4.out.drewN _)).mono ?_
    rintro e1 w5 ⟨rfl, h5, hr5, hg⟩
    have HG5 := Lib.hid hg
    have H5 := Lib.hid h5
    have HR5 := Lib.hid hr5
    clear hg h5 hr5
    go_wp2
    go_ret
    exact ⟨_, rfl, ⟨HG'.out, _, f, x, H5.out, fun _ => ⟨rfl, HR5.out, Nat.ne_of_gt LTB.out⟩, fun _ => HX.out, fun h => absurd h (show ¬ (3 : Nat) = 5 by decide)⟩, ((((Sep.grown HG1.out (.inr rfl)).trans (.grownN HG2.out)).trans SEP4.out).trans (.drewN _ _ _)).trans (.grown HG5.out (.inl rfl)), .inr LE5.out⟩
set_option maxHeartbeats 4000000 in
theorem in_num03 {l : Hd.L} (hl : l.Ok) (kd v0 v1 v2 er : Int) (u : Tk.S) (hG : Hd.Good l ⟨3, kd, 0, v0, v1, v2, u, er⟩) (hm : Hd.many kd = 3) (c : Int) (c0 : 0 ≤ c) (c1 : c ≤ 255) (t : Tk.S) (ht : Tk.put (l.at 0) u c = t) (hk : t.k = 4) (hn : t.n ≠ 0) (w : World) (b n : Nat) (h : HdX 0 w b n l ⟨3, kd, 0, v0, v1, v2, u, er⟩) :
    Calls Tryz.prog 204 #[.pointer (some ⟨b, 0, none⟩), .int .u8 c] w (InR w b n l (Hd.S.num ⟨3, kd, 0, v0, v1, v2, u, er⟩ t.n)) := by
  have hT := Tk.good_put (hG.2.1 (Nat.le_refl 3)).1 c
  have hG' := Hd.good_take hl (hG.2.2.2.2.1 (Nat.le_succ 2) (Nat.le_succ 3)) (hG.2.2.2.2.2.1 (Nat.le_refl 3)) hT
  rw [show Tk.put (l.at 0) u c = t from ht] at hT
  rw [show Tk.put _ _ c = t from ht, show Hd.take ⟨3, kd, 0, v0, v1, v2, u, er⟩ t = Hd.S.num ⟨3, kd, 0, v0, v1, v2, u, er⟩ t.n by unfold Hd.take; rw [if_neg (by omega), if_pos hk, if_neg hn]] at hG'
  have hv := Tk.val_over hT hk
  have hz : (t.n == 0) = false := by simpa using hn
  obtain ⟨_, nv, f, x, h1, h2, h3, h4⟩ := h
  obtain ⟨rfl, hr, hne⟩ := h2 rfl
  have hx := h3 (Nat.le_refl 3)
  have h1' : HdC w b kd l.m0 l.m1 l.m2 v0 v1 v2 0 (.pointer (some ⟨n, 0, none⟩)) 0 f x := h1
  have hc8 := h1'.c8
  have HC := Lib.hid (tokC (n := n) (hG.2.1 (Nat.le_refl 3)).1 hl c0 c1 ht (Tk.st_over hk))
  have HV : Hid (∀ W, RdS W n (l.at 0) t → Calls Tryz.prog 211 #[.pointer (some ⟨n, 0, none⟩)] W fun e w' => e = .returned (.tuple #[.int .i64 t.n, .int .i64 0]) ∧ W.grownBy w' none) := fun W hr => (value_s hr).mono fun e w' hh => ⟨by rw [hh.1, hv], hh.2⟩
  have HN : Hid (∀ W, Calls Tryz.prog 212 #[.int .i64 kd] W fun e w' => e = .returned (.int .i64 3) ∧ W = w') := fun W => by have := numbers_any kd W; rw [hm] at this; exact this
  have HR := Lib.hid (show RdS w n (l.at 0) u from hr)
  have HX := Lib.hid hx
  unfold Hd.S.num at hG' ⊢
  rw [hm] at hG' ⊢
  obtain ⟨k, hkk⟩ : ∃ k, t.n = k := ⟨_, rfl⟩
  rw [hkk] at HV hz hG' ⊢
  have HG' : Hid (Hd.Good l ⟨3, kd, 1, k, v1, v2, Tk.new, er⟩) := hG'
  show Calls _ _ _ _ (InR w b n l ⟨3, kd, 1, k, v1, v2, Tk.new, er⟩)
  have HB := Lib.hid (fun W x nv h => hbegin1_any W b kd l.m0 l.m1 l.m2 k v1 v2 nv 0 f x h (by have := Hd.L.at_ok hl 1; unfold Hd.L.at at this; simp at this; omega))
  have H1 := Lib.hid h1'
  have hblt := h1'.lt
  clear h1 h1' hr h2 h3 h4 hG hl ht hk hG' hT hv hn hm hx
  go_enter Tryz.func204, Tryz.ntmps204
  go_wp2_with fail
  refine (HC.out _ HR.out).mono ?_
  rintro e1 w1 ⟨rfl, hr, hg⟩
  have HR1 := Lib.hid hr
  have HG1 := Lib.hid hg
  have h2 := H1.out.kept hg (some_ne (Ne.symm hne))
  have hd8 := h2.c8
  have H2 := Lib.hid h2
  clear hr hg h2 hc8
  go_wp2_with fail
  refine (HV.out _ HR1.out).mono ?_
  rintro e1 w2 ⟨rfl, hg⟩
  have HG2 := Lib.hid hg
  have h3 := H2.out.kept hg (by simp)
  have e0 := h3.c0
  have e7 := h3.c7
  have eN := h3.c4
  have fr7 := h3.fr 7
  have frN := h3.fr 4
  have hlt2 := h3.lt
  have H4 : Hid (HdC ((w2.setCell ⟨b, 4, none⟩ (.int .i64 k)).setCell ⟨b, 7, none⟩ (.int .i64 1)).drew b kd l.m0 l.m1 l.m2 k v1 v2 1 (.pointer (some ⟨n, 0, none⟩)) 0 f x) := (h3.put4 k).put7 1
  have SEP4 : Hid (Sep (two b n) w2 ((w2.setCell ⟨b, 4, none⟩ (.int .i64 k)).setCell ⟨b, 7, none⟩ (.int .i64 1)).drew) := by
    show Sep _ _ _
    exact ((Sep.setCell w2 (.inl rfl) _).trans (.setCell _ (.inl rfl) _)).trans (.drew _ _)
  clear hg h3 hd8
  go_wp2_with fail
  go_region_with (fail)
  all_goals
    go_wp2_with fail
    generalize ((w2.setCell ⟨b, 4, none⟩ (.int .i64 k)).setCell ⟨b, 7, none⟩ (.int .i64 1)).drew = w4 at H4 SEP4 ⊢
    have q0 := H4.out.c0
    have q7 := H4.out.c7
    have LTB := Lib.hid (show b < w4.heap.size from H4.out.lt)
    have LE5 := Lib.hid (show w.heap.size ≤ w4.heap.size from Nat.le_trans HG1.out.size (Nat.le_trans HG2.out.size SEP4.out.size))
    go_quiet ((go_at_call 212; exact Calls.quiet_of_same ((HN.out _).mono fun e w' hh => ⟨hh.1, hh.2.symm⟩)))
    go_wp2_with fail
    refine (HB.out _ _ _ (H4.out.drewN _)).mono ?_
    rintro e1 w5 ⟨rfl, h5, hr5, hg⟩
    have HG5 := Lib.hid hg
    have H5 := Lib.hid h5
    have HR5 := Lib.hid hr5
    clear hg h5 hr5
    go_wp2
    go_ret
    exact ⟨_, rfl, ⟨HG'.out, _, f, x, H5.out, fun _ => ⟨rfl, HR5.out, Nat.ne_of_gt LTB.out⟩, fun _ => HX.out, fun h => absurd h (show ¬ (3 : Nat) = 5 by decide)⟩, ((((Sep.grown HG1.out (.inr rfl)).trans (.grownN HG2.out)).trans SEP4.out).trans (.drewN _ _ _)).trans (.grown HG5.out (.inl rfl)), .inr LE5.out⟩
set_option maxHeartbeats 4000000 in
theorem in_num12 {l : Hd.L} (hl : l.Ok) (kd v0 v1 v2 er : Int) (u : Tk.S) (hG : Hd.Good l ⟨3, kd, 1, v0, v1, v2, u, er⟩) (hm : Hd.many kd = 2) (c : Int) (c0 : 0 ≤ c) (c1 : c ≤ 255) (t : Tk.S) (ht : Tk.put (l.at 1) u c = t) (hk : t.k = 4) (hn : t.n ≠ 0) (w : World) (b n : Nat) (h : HdX 0 w b n l ⟨3, kd, 1, v0, v1, v2, u, er⟩) :
    Calls Tryz.prog 204 #[.pointer (some ⟨b, 0, none⟩), .int .u8 c] w (InR w b n l (Hd.S.num ⟨3, kd, 1, v0, v1, v2, u, er⟩ t.n)) := by
  have hT := Tk.good_put (hG.2.1 (Nat.le_refl 3)).1 c
  have hG' := Hd.good_take hl (hG.2.2.2.2.1 (Nat.le_succ 2) (Nat.le_succ 3)) (hG.2.2.2.2.2.1 (Nat.le_refl 3)) hT
  rw [show Tk.put (l.at 1) u c = t from ht] at hT
  rw [show Tk.put _ _ c = t from ht, show Hd.take ⟨3, kd, 1, v0, v1, v2, u, er⟩ t = Hd.S.num ⟨3, kd, 1, v0, v1, v2, u, er⟩ t.n by unfold Hd.take; rw [if_neg (by omega), if_pos hk, if_neg hn]] at hG'
  have hv := Tk.val_over hT hk
  have hz : (t.n == 0) = false := by simpa using hn
  obtain ⟨_, nv, f, x, h1, h2, h3, h4⟩ := h
  obtain ⟨rfl, hr, hne⟩ := h2 rfl
  have hx := h3 (Nat.le_refl 3)
  have h1' : HdC w b kd l.m0 l.m1 l.m2 v0 v1 v2 1 (.pointer (some ⟨n, 0, none⟩)) 0 f x := h1
  have hc8 := h1'.c8
  have HC := Lib.hid (tokC (n := n) (hG.2.1 (Nat.le_refl 3)).1 hl c0 c1 ht (Tk.st_over hk))
  have HV : Hid (∀ W, RdS W n (l.at 1) t → Calls Tryz.prog 211 #[.pointer (some ⟨n, 0, none⟩)] W fun e w' => e = .returned (.tuple #[.int .i64 t.n, .int .i64 0]) ∧ W.grownBy w' none) := fun W hr => (value_s hr).mono fun e w' hh => ⟨by rw [hh.1, hv], hh.2⟩
  have HN : Hid (∀ W, Calls Tryz.prog 212 #[.int .i64 kd] W fun e w' => e = .returned (.int .i64 2) ∧ W = w') := fun W => by have := numbers_any kd W; rw [hm] at this; exact this
  have HR := Lib.hid (show RdS w n (l.at 1) u from hr)
  have HX := Lib.hid hx
  unfold Hd.S.num at hG' ⊢
  rw [hm] at hG' ⊢
  obtain ⟨k, hkk⟩ : ∃ k, t.n = k := ⟨_, rfl⟩
  rw [hkk] at HV hz hG' ⊢
  have HG' : Hid (Hd.Good l ⟨4, kd, 2, v0, k, v2, Tk.new, er⟩) := hG'
  show Calls _ _ _ _ (InR w b n l ⟨4, kd, 2, v0, k, v2, Tk.new, er⟩)
  have H1 := Lib.hid h1'
  have hblt := h1'.lt
  clear h1 h1' hr h2 h3 h4 hG hl ht hk hG' hT hv hn hm hx
  go_enter Tryz.func204, Tryz.ntmps204
  go_wp2_with fail
  refine (HC.out _ HR.out).mono ?_
  rintro e1 w1 ⟨rfl, hr, hg⟩
  have HR1 := Lib.hid hr
  have HG1 := Lib.hid hg
  have h2 := H1.out.kept hg (some_ne (Ne.symm hne))
  have hd8 := h2.c8
  have H2 := Lib.hid h2
  clear hr hg h2 hc8
  go_wp2_with fail
  refine (HV.out _ HR1.out).mono ?_
  rintro e1 w2 ⟨rfl, hg⟩
  have HG2 := Lib.hid hg
  have h3 := H2.out.kept hg (by simp)
  have e0 := h3.c0
  have e7 := h3.c7
  have eN := h3.c5
  have fr7 := h3.fr 7
  have frN := h3.fr 5
  have hlt2 := h3.lt
  have H4 : Hid (HdC ((w2.setCell ⟨b, 5, none⟩ (.int .i64 k)).setCell ⟨b, 7, none⟩ (.int .i64 2)).drew b kd l.m0 l.m1 l.m2 v0 k v2 2 (.pointer (some ⟨n, 0, none⟩)) 0 f x) := (h3.put5 k).put7 2
  have SEP4 : Hid (Sep (two b n) w2 ((w2.setCell ⟨b, 5, none⟩ (.int .i64 k)).setCell ⟨b, 7, none⟩ (.int .i64 2)).drew) := by
    show Sep _ _ _
    exact ((Sep.setCell w2 (.inl rfl) _).trans (.setCell _ (.inl rfl) _)).trans (.drew _ _)
  clear hg h3 hd8
  go_wp2_with fail
  go_region_with (fail)
  all_goals
    go_wp2_with fail
    generalize ((w2.setCell ⟨b, 5, none⟩ (.int .i64 k)).setCell ⟨b, 7, none⟩ (.int .i64 2)).drew = w4 at H4 SEP4 ⊢
    have q0 := H4.out.c0
    have q7 := H4.out.c7
    have LTB := Lib.hid (show b < w4.heap.size from H4.out.lt)
    have LE5 := Lib.hid (show w.heap.size ≤ w4.heap.size from Nat.le_trans HG1.out.size (Nat.le_trans HG2.out.size SEP4.out.size))
    go_quiet ((go_at_call 212; exact Calls.quiet_of_same ((HN.out _).mono fun e w' hh => ⟨hh.1, hh.2.symm⟩)))
    go_wp2_with fail
    go_ret
    exact ⟨n, rfl, ⟨HG'.out, _, f, x, H4.out.drewN _, fun h => absurd h (show ¬ (4 : Nat) = 3 by decide), fun h => absurd h (show ¬ (4 : Nat) ≤ 3 by decide), fun h => absurd h (show ¬ (4 : Nat) = 5 by decide)⟩, (((Sep.grown HG1.out (.inr rfl)).trans (.grownN HG2.out)).trans SEP4.out).trans (.drewN _ _ _), .inl rfl⟩
set_option maxHeartbeats 4000000 in
theorem in_num13 {l : Hd.L} (hl : l.Ok) (kd v0 v1 v2 er : Int) (u : Tk.S) (hG : Hd.Good l ⟨3, kd, 1, v0, v1, v2, u, er⟩) (hm : Hd.many kd = 3) (c : Int) (c0 : 0 ≤ c) (c1 : c ≤ 255) (t : Tk.S) (ht : Tk.put (l.at 1) u c = t) (hk : t.k = 4) (hn : t.n ≠ 0) (w : World) (b n : Nat) (h : HdX 0 w b n l ⟨3, kd, 1, v0, v1, v2, u, er⟩) :
    Calls Tryz.prog 204 #[.pointer (some ⟨b, 0, none⟩), .int .u8 c] w (InR w b n l (Hd.S.num ⟨3, kd, 1, v0, v1, v2, u, er⟩ t.n)) := by
  have hT := Tk.good_put (hG.2.1 (Nat.le_refl 3)).1 c
  have hG' := Hd.good_take hl (hG.2.2.2.2.1 (Nat.le_succ 2) (Nat.le_succ 3)) (hG.2.2.2.2.2.1 (Nat.le_refl 3)) hT
  rw [show Tk.put (l.at 1) u c = t from ht] at hT
  rw [show Tk.put _ _ c = t from ht, show Hd.take ⟨3, kd, 1, v0, v1, v2, u, er⟩ t = Hd.S.num ⟨3, kd, 1, v0, v1, v2, u, er⟩ t.n by unfold Hd.take; rw [if_neg (by omega), if_pos hk, if_neg hn]] at hG'
  have hv := Tk.val_over hT hk
  have hz : (t.n == 0) = false := by simpa using hn
  obtain ⟨_, nv, f, x, h1, h2, h3, h4⟩ := h
  obtain ⟨rfl, hr, hne⟩ := h2 rfl
  have hx := h3 (Nat.le_refl 3)
  have h1' : HdC w b kd l.m0 l.m1 l.m2 v0 v1 v2 1 (.pointer (some ⟨n, 0, none⟩)) 0 f x := h1
  have hc8 := h1'.c8
  have HC := Lib.hid (tokC (n := n) (hG.2.1 (Nat.le_refl 3)).1 hl c0 c1 ht (Tk.st_over hk))
  have HV : Hid (∀ W, RdS W n (l.at 1) t → Calls Tryz.prog 211 #[.pointer (some ⟨n, 0, none⟩)] W fun e w' => e = .returned (.tuple #[.int .i64 t.n, .int .i64 0]) ∧ W.grownBy w' none) := fun W hr => (value_s hr).mono fun e w' hh => ⟨by rw [hh.1, hv], hh.2⟩
  have HN : Hid (∀ W, Calls Tryz.prog 212 #[.int .i64 kd] W fun e w' => e = .returned (.int .i64 3) ∧ W = w') := fun W => by have := numbers_any kd W; rw [hm] at this; exact this
  have HR := Lib.hid (show RdS w n (l.at 1) u from hr)
  have HX := Lib.hid hx
  unfold Hd.S.num at hG' ⊢
  rw [hm] at hG' ⊢
  obtain ⟨k, hkk⟩ : ∃ k, t.n = k := ⟨_, rfl⟩
  rw [hkk] at HV hz hG' ⊢
  have HG' : Hid (Hd.Good l ⟨3, kd, 2, v0, k, v2, Tk.new, er⟩) := hG'
  show Calls _ _ _ _ (InR w b n l ⟨3, kd, 2, v0, k, v2, Tk.new, er⟩)
  have HB := Lib.hid (fun W x nv h => hbegin2_any W b kd l.m0 l.m1 l.m2 v0 k v2 nv 0 f x h (by have := Hd.L.at_ok hl 2; unfold Hd.L.at at this; simp at this; omega))
  have H1 := Lib.hid h1'
  have hblt := h1'.lt
  clear h1 h1' hr h2 h3 h4 hG hl ht hk hG' hT hv hn hm hx
  go_enter Tryz.func204, Tryz.ntmps204
  go_wp2_with fail
  refine (HC.out _ HR.out).mono ?_
  rintro e1 w1 ⟨rfl, hr, hg⟩
  have HR1 := Lib.hid hr
  have HG1 := Lib.hid hg
  have h2 := H1.out.kept hg (some_ne (Ne.symm hne))
  have hd8 := h2.c8
  have H2 := Lib.hid h2
  clear hr hg h2 hc8
  go_wp2_with fail
  refine (HV.out _ HR1.out).mono ?_
  rintro e1 w2 ⟨rfl, hg⟩
  have HG2 := Lib.hid hg
  have h3 := H2.out.kept hg (by simp)
  have e0 := h3.c0
  have e7 := h3.c7
  have eN := h3.c5
  have fr7 := h3.fr 7
  have frN := h3.fr 5
  have hlt2 := h3.lt
  have H4 : Hid (HdC ((w2.setCell ⟨b, 5, none⟩ (.int .i64 k)).setCell ⟨b, 7, none⟩ (.int .i64 2)).drew b kd l.m0 l.m1 l.m2 v0 k v2 2 (.pointer (some ⟨n, 0, none⟩)) 0 f x) := (h3.put5 k).put7 2
  have SEP4 : Hid (Sep (two b n) w2 ((w2.setCell ⟨b, 5, none⟩ (.int .i64 k)).setCell ⟨b, 7, none⟩ (.int .i64 2)).drew) := by
    show Sep _ _ _
    exact ((Sep.setCell w2 (.inl rfl) _).trans (.setCell _ (.inl rfl) _)).trans (.drew _ _)
  clear hg h3 hd8
  go_wp2_with fail
  go_region_with (fail)
  all_goals
    go_wp2_with fail
    generalize ((w2.setCell ⟨b, 5, none⟩ (.int .i64 k)).setCell ⟨b, 7, none⟩ (.int .i64 2)).drew = w4 at H4 SEP4 ⊢
    have q0 := H4.out.c0
    have q7 := H4.out.c7
    have LTB := Lib.hid (show b < w4.heap.size from H4.out.lt)
    have LE5 := Lib.hid (show w.heap.size ≤ w4.heap.size from Nat.le_trans HG1.out.size (Nat.le_trans HG2.out.size SEP4.out.size))
    go_quiet ((go_at_call 212; exact Calls.quiet_of_same ((HN.out _).mono fun e w' hh => ⟨hh.1, hh.2.symm⟩)))
    go_wp2_with fail
    refine (HB.out _ _ _ (H4.out.drewN _)).mono ?_
    rintro e1 w5 ⟨rfl, h5, hr5, hg⟩
    have HG5 := Lib.hid hg
    have H5 := Lib.hid h5
    have HR5 := Lib.hid hr5
    clear hg h5 hr5
    go_wp2
    go_ret
    exact ⟨_, rfl, ⟨HG'.out, _, f, x, H5.out, fun _ => ⟨rfl, HR5.out, Nat.ne_of_gt LTB.out⟩, fun _ => HX.out, fun h => absurd h (show ¬ (3 : Nat) = 5 by decide)⟩, ((((Sep.grown HG1.out (.inr rfl)).trans (.grownN HG2.out)).trans SEP4.out).trans (.drewN _ _ _)).trans (.grown HG5.out (.inl rfl)), .inr LE5.out⟩
set_option maxHeartbeats 4000000 in
theorem in_num23 {l : Hd.L} (hl : l.Ok) (kd v0 v1 v2 er : Int) (u : Tk.S) (hG : Hd.Good l ⟨3, kd, 2, v0, v1, v2, u, er⟩) (hm : Hd.many kd = 3) (c : Int) (c0 : 0 ≤ c) (c1 : c ≤ 255) (t : Tk.S) (ht : Tk.put (l.at 2) u c = t) (hk : t.k = 4) (hn : t.n ≠ 0) (w : World) (b n : Nat) (h : HdX 0 w b n l ⟨3, kd, 2, v0, v1, v2, u, er⟩) :
    Calls Tryz.prog 204 #[.pointer (some ⟨b, 0, none⟩), .int .u8 c] w (InR w b n l (Hd.S.num ⟨3, kd, 2, v0, v1, v2, u, er⟩ t.n)) := by
  have hT := Tk.good_put (hG.2.1 (Nat.le_refl 3)).1 c
  have hG' := Hd.good_take hl (hG.2.2.2.2.1 (Nat.le_succ 2) (Nat.le_succ 3)) (hG.2.2.2.2.2.1 (Nat.le_refl 3)) hT
  rw [show Tk.put (l.at 2) u c = t from ht] at hT
  rw [show Tk.put _ _ c = t from ht, show Hd.take ⟨3, kd, 2, v0, v1, v2, u, er⟩ t = Hd.S.num ⟨3, kd, 2, v0, v1, v2, u, er⟩ t.n by unfold Hd.take; rw [if_neg (by omega), if_pos hk, if_neg hn]] at hG'
  have hv := Tk.val_over hT hk
  have hz : (t.n == 0) = false := by simpa using hn
  obtain ⟨_, nv, f, x, h1, h2, h3, h4⟩ := h
  obtain ⟨rfl, hr, hne⟩ := h2 rfl
  have hx := h3 (Nat.le_refl 3)
  have h1' : HdC w b kd l.m0 l.m1 l.m2 v0 v1 v2 2 (.pointer (some ⟨n, 0, none⟩)) 0 f x := h1
  have hc8 := h1'.c8
  have HC := Lib.hid (tokC (n := n) (hG.2.1 (Nat.le_refl 3)).1 hl c0 c1 ht (Tk.st_over hk))
  have HV : Hid (∀ W, RdS W n (l.at 2) t → Calls Tryz.prog 211 #[.pointer (some ⟨n, 0, none⟩)] W fun e w' => e = .returned (.tuple #[.int .i64 t.n, .int .i64 0]) ∧ W.grownBy w' none) := fun W hr => (value_s hr).mono fun e w' hh => ⟨by rw [hh.1, hv], hh.2⟩
  have HN : Hid (∀ W, Calls Tryz.prog 212 #[.int .i64 kd] W fun e w' => e = .returned (.int .i64 3) ∧ W = w') := fun W => by have := numbers_any kd W; rw [hm] at this; exact this
  have HR := Lib.hid (show RdS w n (l.at 2) u from hr)
  have HX := Lib.hid hx
  unfold Hd.S.num at hG' ⊢
  rw [hm] at hG' ⊢
  obtain ⟨k, hkk⟩ : ∃ k, t.n = k := ⟨_, rfl⟩
  rw [hkk] at HV hz hG' ⊢
  have HG' : Hid (Hd.Good l ⟨4, kd, 3, v0, v1, k, Tk.new, er⟩) := hG'
  show Calls _ _ _ _ (InR w b n l ⟨4, kd, 3, v0, v1, k, Tk.new, er⟩)
  have H1 := Lib.hid h1'
  have hblt := h1'.lt
  clear h1 h1' hr h2 h3 h4 hG hl ht hk hG' hT hv hn hm hx
  go_enter Tryz.func204, Tryz.ntmps204
  go_wp2_with fail
  refine (HC.out _ HR.out).mono ?_
  rintro e1 w1 ⟨rfl, hr, hg⟩
  have HR1 := Lib.hid hr
  have HG1 := Lib.hid hg
  have h2 := H1.out.kept hg (some_ne (Ne.symm hne))
  have hd8 := h2.c8
  have H2 := Lib.hid h2
  clear hr hg h2 hc8
  go_wp2_with fail
  refine (HV.out _ HR1.out).mono ?_
  rintro e1 w2 ⟨rfl, hg⟩
  have HG2 := Lib.hid hg
  have h3 := H2.out.kept hg (by simp)
  have e0 := h3.c0
  have e7 := h3.c7
  have eN := h3.c6
  have fr7 := h3.fr 7
  have frN := h3.fr 6
  have hlt2 := h3.lt
  have H4 : Hid (HdC ((w2.setCell ⟨b, 6, none⟩ (.int .i64 k)).setCell ⟨b, 7, none⟩ (.int .i64 3)).drew b kd l.m0 l.m1 l.m2 v0 v1 k 3 (.pointer (some ⟨n, 0, none⟩)) 0 f x) := (h3.put6 k).put7 3
  have SEP4 : Hid (Sep (two b n) w2 ((w2.setCell ⟨b, 6, none⟩ (.int .i64 k)).setCell ⟨b, 7, none⟩ (.int .i64 3)).drew) := by
    show Sep _ _ _
    exact ((Sep.setCell w2 (.inl rfl) _).trans (.setCell _ (.inl rfl) _)).trans (.drew _ _)
  clear hg h3 hd8
  go_wp2_with fail
  go_region_with (fail)
  all_goals
    go_wp2_with fail
    generalize ((w2.setCell ⟨b, 6, none⟩ (.int .i64 k)).setCell ⟨b, 7, none⟩ (.int .i64 3)).drew = w4 at H4 SEP4 ⊢
    have q0 := H4.out.c0
    have q7 := H4.out.c7
    have LTB := Lib.hid (show b < w4.heap.size from H4.out.lt)
    have LE5 := Lib.hid (show w.heap.size ≤ w4.heap.size from Nat.le_trans HG1.out.size (Nat.le_trans HG2.out.size SEP4.out.size))
    go_quiet ((go_at_call 212; exact Calls.quiet_of_same ((HN.out _).mono fun e w' hh => ⟨hh.1, hh.2.symm⟩)))
    go_wp2_with fail
    go_ret
    exact ⟨n, rfl, ⟨HG'.out, _, f, x, H4.out.drewN _, fun h => absurd h (show ¬ (4 : Nat) = 3 by decide), fun h => absurd h (show ¬ (4 : Nat) ≤ 3 by decide), fun h => absurd h (show ¬ (4 : Nat) = 5 by decide)⟩, (((Sep.grown HG1.out (.inr rfl)).trans (.grownN HG2.out)).trans SEP4.out).trans (.drewN _ _ _), .inl rfl⟩
end Go.Proofs.YtmnhiagppicegaaGreat

/- A reader of a head is told a byte, over any memory. Condition: its limits are such as may be. -/
namespace Go.Proofs.YtmnhiagppicegaaGreat
open Go.RowKit
set_option linter.unusedVariables false

theorem inNum_any {l : Hd.L} (hl : l.Ok) {s : Hd.S} (hG : Hd.Good l s) (hp : s.p = 3) (c : Int) (c0 : 0 ≤ c) (c1 : c ≤ 255) (w : World) (b n : Nat) (h : HdX 0 w b n l s) :
    Calls Tryz.prog 204 #[.pointer (some ⟨b, 0, none⟩), .int .u8 c] w (InR w b n l (Hd.inNum l s c)) := by
  obtain ⟨t, ht⟩ : ∃ t, Tk.put (l.at s.i) s.t c = t := ⟨_, rfl⟩
  have hT := Tk.good_put (hG.2.1 (by omega)).1 c
  rw [ht] at hT
  unfold Hd.inNum
  rw [ht]
  by_cases k5 : t.k = 5
  · unfold Hd.take; rw [if_pos k5]; exact in_wrong hl hG hp c c0 c1 t ht k5 w b n h
  by_cases k4 : t.k = 4
  · unfold Hd.take
    rw [if_neg k5, if_pos k4]
    by_cases hn : t.n = 0
    · rw [if_pos hn]; exact in_zero hl hG hp c c0 c1 t ht k4 hn w b n h
    · rw [if_neg hn]
      have hi := hG.2.2.2.2.2.1 (by omega)
      obtain ⟨p, kd, i, v0, v1, v2, u, er⟩ := s
      obtain rfl : p = 3 := hp
      have hm := Hd.many_at kd
      have hi' : i < Hd.many kd := hi
      have hcase : (i = 0 ∧ Hd.many kd = 2) ∨ (i = 0 ∧ Hd.many kd = 3) ∨ (i = 1 ∧ Hd.many kd = 2) ∨ (i = 1 ∧ Hd.many kd = 3) ∨ (i = 2 ∧ Hd.many kd = 3) := by omega
      rcases hcase with ⟨rfl, hm⟩ | ⟨rfl, hm⟩ | ⟨rfl, hm⟩ | ⟨rfl, hm⟩ | ⟨rfl, hm⟩
      · exact in_num02 hl kd v0 v1 v2 er u hG hm c c0 c1 t ht k4 hn w b n h
      · exact in_num03 hl kd v0 v1 v2 er u hG hm c c0 c1 t ht k4 hn w b n h
      · exact in_num12 hl kd v0 v1 v2 er u hG hm c c0 c1 t ht k4 hn w b n h
      · exact in_num13 hl kd v0 v1 v2 er u hG hm c c0 c1 t ht k4 hn w b n h
      · exact in_num23 hl kd v0 v1 v2 er u hG hm c c0 c1 t ht k4 hn w b n h
  · have := hT.1
    unfold Hd.take; rw [if_neg k5, if_neg k4]; exact in_more hl hG hp c c0 c1 t ht (by omega) w b n h
set_option maxHeartbeats 2000000 in
theorem first_yes {l : Hd.L} (hl : l.Ok) {s : Hd.S} (hG : Hd.Good l s) (hp : s.p = 0) (w : World) (b n : Nat) (h : HdX 0 w b n l s) :
    Calls Tryz.prog 145 #[.pointer (some ⟨b, 0, none⟩), .int .u8 80] w (InR w b n l (Hd.put l s 80)) := by
  have hG' := Hd.good_put hl hG 80
  have hs : Hd.put l s 80 = ⟨1, s.kd, s.i, s.v0, s.v1, s.v2, s.t, s.e⟩ := by unfold Hd.put; rw [if_pos hp, if_pos rfl]
  rw [hs] at hG' ⊢
  obtain ⟨_, nv, f, x, h1, h2, h3, h4⟩ := h
  have hc := h1.c11
  have hf := h1.fr 11
  clear hs h2 h3 h4
  go_enter Tryz.func145, Tryz.ntmps145
  go_wp2
  go_ret
  exact ⟨n, rfl, ⟨hG', _, f, _, h1.put11 _, fun h => absurd h (show ¬ (1 : Nat) = 3 by decide), fun _ => rfl, fun h => absurd h (show ¬ (1 : Nat) = 5 by decide)⟩, .setCell _ (.inl rfl) _, .inl rfl⟩
set_option maxHeartbeats 2000000 in
theorem first_no {l : Hd.L} (hl : l.Ok) {s : Hd.S} (hG : Hd.Good l s) (hp : s.p = 0) (c : Int) (c0 : 0 ≤ c) (c1 : c ≤ 255) (hc : ¬ c = 80) (w : World) (b n : Nat) (h : HdX 0 w b n l s) :
    Calls Tryz.prog 145 #[.pointer (some ⟨b, 0, none⟩), .int .u8 c] w (InR w b n l (Hd.put l s c)) := by
  have hG' := Hd.good_put hl hG c
  have hs : Hd.put l s c = s.wrong 2 := by unfold Hd.put; rw [if_pos hp, if_neg hc]
  rw [hs] at hG' ⊢
  obtain ⟨_, nv, f, x, h1, h2, h3, h4⟩ := h
  have hk : (c != 80) = true := by simpa using hc
  have H1 := Lib.hid h1
  have HW := Lib.hid hwrong_any
  clear hs h2 h3 h4 hc h1
  go_enter Tryz.func145, Tryz.ntmps145
  go_wp2_with fail
  refine (HW.out _ _ _ _ _ _ _ _ _ _ _ _ _ _ H1.out _).mono ?_
  rintro e1 w3 ⟨rfl, h3, hg⟩
  go_wp2
  go_ret
  exact ⟨n, rfl, ⟨hG', _, _, _, h3, fun h => absurd h (show ¬ (5 : Nat) = 3 by decide), fun h => absurd h (show ¬ (5 : Nat) ≤ 3 by decide), fun _ => rfl⟩, .grown hg (.inl rfl), .inl rfl⟩
set_option maxHeartbeats 2000000 in
theorem second_yes {l : Hd.L} (hl : l.Ok) {s : Hd.S} (hG : Hd.Good l s) (hp : s.p = 1) (c : Int) (c0 : 49 ≤ c) (c1 : c ≤ 54) (w : World) (b n : Nat) (h : HdX 0 w b n l s) :
    Calls Tryz.prog 175 #[.pointer (some ⟨b, 0, none⟩), .int .u8 c] w (InR w b n l (Hd.put l s c)) := by
  have hG' := Hd.good_put hl hG c
  have hs : Hd.put l s c = ⟨2, c - 48, s.i, s.v0, s.v1, s.v2, s.t, s.e⟩ := by unfold Hd.put; rw [if_neg (by omega), if_pos hp, if_pos ⟨c0, c1⟩]
  rw [hs] at hG' ⊢
  obtain ⟨_, nv, f, x, h1, h2, h3, h4⟩ := h
  have hc0 := h1.c0
  have hc := h1.c11
  have hf0 := h1.fr 0
  have hf := h1.fr 11
  have k1 : ¬ c < 49 := by omega
  have k2 : ¬ 54 < c := by omega
  have k3 : 0 ≤ c - 48 := by omega
  have k4 : c - 48 ≤ 255 := by omega
  have H1 := Lib.hid h1
  clear hs h2 h3 h4 h1 hp
  go_enter Tryz.func175, Tryz.ntmps175
  go_wp2
  go_ret
  exact ⟨n, rfl, ⟨hG', _, f, _, (H1.out.put0 _).put11 _, fun h => absurd h (show ¬ (2 : Nat) = 3 by decide), fun _ => rfl, fun h => absurd h (show ¬ (2 : Nat) = 5 by decide)⟩, (Sep.setCell _ (.inl rfl) _).trans (.setCell _ (.inl rfl) _), .inl rfl⟩
set_option maxHeartbeats 2000000 in
theorem second_no {l : Hd.L} (hl : l.Ok) {s : Hd.S} (hG : Hd.Good l s) (hp : s.p = 1) (c : Int) (c0 : 0 ≤ c) (c1 : c ≤ 255) (hc : ¬ (49 ≤ c ∧ c ≤ 54)) (w : World) (b n : Nat) (h : HdX 0 w b n l s) :
    Calls Tryz.prog 175 #[.pointer (some ⟨b, 0, none⟩), .int .u8 c] w (InR w b n l (Hd.put l s c)) := by
  have hG' := Hd.good_put hl hG c
  have hs : Hd.put l s c = s.wrong 2 := by unfold Hd.put; rw [if_neg (by omega), if_pos hp, if_neg hc]
  rw [hs] at hG' ⊢
  obtain ⟨_, nv, f, x, h1, h2, h3, h4⟩ := h
  have H1 := Lib.hid h1
  have HW := Lib.hid hwrong_any
  by_cases k1 : c < 49
  · clear hs h2 h3 h4 hc h1 hp
    go_enter Tryz.func175, Tryz.ntmps175
    go_wp2_with fail
    refine (HW.out _ _ _ _ _ _ _ _ _ _ _ _ _ _ H1.out _).mono ?_
    rintro e1 w3 ⟨rfl, h3, hg⟩
    go_wp2
    go_ret
    exact ⟨n, rfl, ⟨hG', _, _, _, h3, fun h => absurd h (show ¬ (5 : Nat) = 3 by decide), fun h => absurd h (show ¬ (5 : Nat) ≤ 3 by decide), fun _ => rfl⟩, .grown hg (.inl rfl), .inl rfl⟩
  · have k2 : 54 < c := by omega
    clear hs h2 h3 h4 hc h1 hp
    go_enter Tryz.func175, Tryz.ntmps175
    go_wp2_with fail
    refine (HW.out _ _ _ _ _ _ _ _ _ _ _ _ _ _ H1.out _).mono ?_
    rintro e1 w3 ⟨rfl, h3, hg⟩
    go_wp2
    go_ret
    exact ⟨n, rfl, ⟨hG', _, _, _, h3, fun h => absurd h (show ¬ (5 : Nat) = 3 by decide), fun h => absurd h (show ¬ (5 : Nat) ≤ 3 by decide), fun _ => rfl⟩, .grown hg (.inl rfl), .inl rfl⟩
set_option maxHeartbeats 2000000 in
theorem third_no {l : Hd.L} (hl : l.Ok) {s : Hd.S} (hG : Hd.Good l s) (hp : s.p = 2) (c : Int) (c0 : 0 ≤ c) (c1 : c ≤ 255) (hb : Tk.blank c = false) (hc : ¬ c = 35) (w : World) (b n : Nat) (h : HdX 0 w b n l s) :
    Calls Tryz.prog 194 #[.pointer (some ⟨b, 0, none⟩), .int .u8 c] w (InR w b n l (Hd.put l s c)) := by
  have hG' := Hd.good_put hl hG c
  have hs : Hd.put l s c = s.wrong 3 := by unfold Hd.put; rw [if_neg (by omega), if_neg (by omega), if_pos hp, if_neg (by rw [hb]; simpa using hc)]
  rw [hs] at hG' ⊢
  obtain ⟨_, nv, f, x, h1, h2, h3, h4⟩ := h
  have H1 := Lib.hid h1
  have HW := Lib.hid hwrong_any
  have HB : Hid (∀ W, Calls Tryz.prog 122 #[.int .u8 c] W fun e w' => e = .returned (.bool false) ∧ W = w') := fun W => by have := blank_any c c0 c1 W; rw [hb] at this; exact this
  have hk : (c != 35) = true := by simpa using hc
  clear hs h2 h3 h4 hc h1 hp hb
  go_enter Tryz.func194, Tryz.ntmps194
  go_wp2_with fail
  refine (HB.out _).mono ?_
  rintro e1 w2 ⟨rfl, rfl⟩
  go_wp2_with fail
  refine (HW.out _ _ _ _ _ _ _ _ _ _ _ _ _ _ H1.out _).mono ?_
  rintro e1 w3 ⟨rfl, h3, hg⟩
  go_wp2
  go_ret
  exact ⟨n, rfl, ⟨hG', _, _, _, h3, fun h => absurd h (show ¬ (5 : Nat) = 3 by decide), fun h => absurd h (show ¬ (5 : Nat) ≤ 3 by decide), fun _ => rfl⟩, .grown hg (.inl rfl), .inl rfl⟩
theorem Sep.fresh {b n k : Nat} {w w2 w3 : World} (h : Sep (two b n) w w2) (h2 : Sep (two b k) w2 w3) (hk : w.heap.size ≤ k) : Sep (two b n) w w3 :=
  ⟨h2.os.trans h.os, h2.tape.trans h.tape, h2.output.trans h.output, Nat.le_trans h.size h2.size, fun j hj hz => (h2.block j (Nat.lt_of_lt_of_le hj h.size) (fun e => e.elim (fun e => hz (.inl e)) (fun e => by omega))).trans (h.block j hj hz)⟩
set_option maxHeartbeats 2000000 in
theorem third_go {l : Hd.L} (hl : l.Ok) {s : Hd.S} (hG : Hd.Good l s) (hp : s.p = 2) (c : Int) (c0 : 0 ≤ c) (c1 : c ≤ 255) (hy : Tk.blank c = true ∨ c = 35) (g : Bool) (hb : Tk.blank c = g) (hgo : g = true ∨ (g = false ∧ c = 35)) (w : World) (b n : Nat) (h : HdX 0 w b n l s) :
    Calls Tryz.prog 194 #[.pointer (some ⟨b, 0, none⟩), .int .u8 c] w (InR w b n l (Hd.put l s c)) := by
  obtain ⟨a1, a2, a3, a4, a5⟩ := hG.2.2.1 (by omega)
  have hs : Hd.put l s c = Hd.inNum l (s.tok s.t) c := by unfold Hd.put; rw [if_neg (by omega), if_neg (by omega), if_pos hp, if_pos hy]; rfl
  rw [hs]
  obtain ⟨p, kd, i, v0, v1, v2, u, er⟩ := s
  simp only at a1 a2 a3 a4 a5 hp
  subst a1 a2 a3 a4 a5 hp
  have hG3 : Hd.Good l ⟨3, kd, 0, 0, 0, 1, Tk.new, er⟩ := by
    have := Hd.L.at_ok hl 0
    exact ⟨Nat.le_succ_of_le (Nat.le_succ 3), fun _ => hG.2.1 (Nat.le_succ 2), fun h => absurd h (show ¬ (3 : Nat) ≤ 2 by decide), fun h => absurd h (show ¬ (3 : Nat) ≤ 1 by decide), fun _ _ => hG.2.2.2.2.1 (Nat.le_refl 2) (Nat.le_succ_of_le (Nat.le_succ_of_le (Nat.le_refl 2))), fun _ => hG.2.2.2.2.2.1 (Nat.le_succ 2), fun h => absurd h (show ¬ (3 : Nat) = 5 by decide), Nat.zero_le 3⟩
  obtain ⟨_, nv, f, x, h1, h2, h3, h4⟩ := h
  have h1' : HdC w b kd l.m0 l.m1 l.m2 0 0 1 0 nv 0 f x := h1
  have H1 := Lib.hid h1'
  have HI := Lib.hid (fun W n h => inNum_any hl hG3 rfl c c0 c1 W b n h)
  have HN := Lib.hid enHN
  have HBg := Lib.hid (fun W h => hbegin0_any W b kd l.m0 l.m1 l.m2 0 0 1 nv 0 f x h (by have := Hd.L.at_ok hl 0; unfold Hd.L.at at this; simp at this; omega))
  have HB : Hid (∀ W, Calls Tryz.prog 122 #[.int .u8 c] W fun e w' => e = .returned (.bool g) ∧ W = w') := fun W => by have := blank_any c c0 c1 W; rw [hb] at this; exact this
  obtain ⟨fn, hfn⟩ : ∃ fn, fn = 204 := ⟨_, rfl⟩
  have HFN := Lib.hid hfn
  have hlt := h1'.lt
  have HGG := Lib.hid hG3
  clear hs h2 h3 h4 h1 h1' hb hy hG hG3 hl hfn
  rcases hgo with rfl | ⟨rfl, rfl⟩
  all_goals
    go_enter Tryz.func194, Tryz.ntmps194
    go_wp2_with fail
    refine (HB.out _).mono ?_
    rintro e1 w2 ⟨rfl, rfl⟩
    go_wp2_with fail
    refine (HBg.out _ H1.out).mono ?_
    rintro e1 w2 ⟨rfl, h2, hr, hg⟩
    have hc11 := h2.c11
    have hf11 := h2.fr 11
    have HG2 := Lib.hid hg
    have hlt2 : w.heap.size ≤ w2.heap.size := hg.size
    have HX3 : Hid (HdX 0 (w2.setCell ⟨b, 11, none⟩ (nxHN b)) b w.heap.size l ⟨3, kd, 0, 0, 0, 1, Tk.new, er⟩) := ⟨HGG.out, _, f, _, h2.put11 _, fun _ => ⟨rfl, hr.kept (grown_set _ _ _ _) (some_ne (Nat.ne_of_gt hlt)), Nat.ne_of_gt hlt⟩, fun _ => rfl, fun h => absurd h (show ¬ (3 : Nat) = 5 by decide)⟩
    have hc11b := (h2.put11 (nxHN b)).c11
    have SP3 : Hid (Sep (two b n) w (w2.setCell ⟨b, 11, none⟩ (nxHN b))) := (Sep.grown hg (.inl rfl)).trans (.setCell _ (.inl rfl) _)
    clear hg h2 hr
    unfold nxHN at HX3 SP3 hc11b
    go_wp2_with fail
    refine (HI.out _ _ HX3.out).mono ?_
    rintro e1 w4 ⟨n', rfl, hx, hsp, hn'⟩
    go_wp2
    go_ret
    exact ⟨n', rfl, hx, SP3.out.fresh hsp (Nat.le_refl _), .inr (hn'.elim (fun e => Nat.le_of_eq e.symm) (fun e => Nat.le_trans SP3.out.size e))⟩
end Go.Proofs.YtmnhiagppicegaaGreat

/- A reader of a head is told a byte, and tells the head, over any memory. Condition: its limits are such as may be. -/
namespace Go.Proofs.YtmnhiagppicegaaGreat
open Go.RowKit
set_option linter.unusedVariables false

/-- what a reader hands back of a byte, and what its blocks hold then -/
def HPutR (w : World) (b n : Nat) (l : Hd.L) (s : Hd.S) (e : Ending) (w' : World) : Prop :=
  ∃ n', e = .returned (.int .i64 (Hd.st s)) ∧ HdX (Hd.st s) w' b n' l s ∧ Sep (two b n) w w' ∧ (n' = n ∨ w.heap.size ≤ n')
theorem HdX.status {w : World} {b n : Nat} {l : Hd.L} {s : Hd.S} (h : HdX 0 w b n l s) (T : Int) : HdX T (w.setCell ⟨b, 9, none⟩ (.int .i64 T)) b n l s := by
  obtain ⟨hG, nv, f, x, h1, h2, h3, h4⟩ := h
  refine ⟨hG, nv, f, x, h1.put9 T, fun hp => ?_, h3, h4⟩
  obtain ⟨a1, a2, a3⟩ := h2 hp
  exact ⟨a1, a2.kept (grown_set _ _ _ _) (some_ne a3), a3⟩
set_option maxHeartbeats 1000000 in
theorem hput_go {l : Hd.L} {s s' : Hd.S} (hp : s.p ≤ 3) (c : Int) (w : World) (b n : Nat) (h : HdX 0 w b n l s) (fn : Nat) (hn : ∀ args w, (callFunc fn args).run Tryz.prog w = .ok (.enter fn args) w)
    (hx : nxP s.p b = .func (.func fn) #[.pointer (some ⟨b, 0, none⟩)] #[]) (hcall : Calls Tryz.prog fn #[.pointer (some ⟨b, 0, none⟩), .int .u8 c] w (InR w b n l s')) :
    Calls Tryz.prog 101 #[.pointer (some ⟨b, 0, none⟩), .int .u8 c] w (HPutR w b n l s') := by
  obtain ⟨_, nv, f, x, h1, h2, h3, h4⟩ := h
  obtain rfl := h3 hp
  rw [hx] at h1
  have hc9 := h1.c9
  have hc11 := h1.c11
  have HC := Lib.hid hcall
  clear hcall h1 h2 h3 h4 hx
  go_enter Tryz.func101, Tryz.ntmps101
  go_wp2_with (go_at_fn fn; refine HC.out.mono ?_; rintro e w2 ⟨n', rfl, hX, hs, hn'⟩; have HX := Lib.hid hX; have HS := Lib.hid hs; have HN' := Lib.hid hn'; have ⟨hd9, hf9⟩ : w2.cell? ⟨b, 9, none⟩ = some (.int .i64 0) ∧ w2.frozen? ⟨b, 9, none⟩ = false := (by obtain ⟨_, nv', f', x', r1, _⟩ := hX; exact ⟨r1.c9, r1.fr 9⟩); clear hX hs hn')
  go_ret
  exact ⟨n', rfl, HX.out.status _, HS.out.trans (.setCell _ (.inl rfl) _), HN'.out⟩
set_option maxHeartbeats 1000000 in
/-- it is told nothing more -/
theorem hput_done {l : Hd.L} {s : Hd.S} (T : Int) (ht : T ≠ 0) (c : Int) (w : World) (b n : Nat) (h : HdX T w b n l s) :
    Calls Tryz.prog 101 #[.pointer (some ⟨b, 0, none⟩), .int .u8 c] w fun e w' => e = .returned (.int .i64 T) ∧ w = w' := by
  obtain ⟨_, nv, f, x, h1, h2, h3, h4⟩ := h
  have hc9 := h1.c9
  have ht' : (T == 0) = false := by simpa using ht
  clear ht h1 h2 h3 h4
  go_enter Tryz.func101, Tryz.ntmps101
  go_wp2
  go_ret
  exact ⟨rfl, rfl⟩
theorem Hd.st_open {s : Hd.S} (h : s.p ≤ 3) : Hd.st s = 0 := by unfold Hd.st; rw [if_neg (by omega), if_neg (by omega)]
theorem hput_any {l : Hd.L} (hl : l.Ok) {s : Hd.S} (hG : Hd.Good l s) (c : Int) (c0 : 0 ≤ c) (c1 : c ≤ 255) (w : World) (b n : Nat) (h : HdX (Hd.st s) w b n l s) :
    Calls Tryz.prog 101 #[.pointer (some ⟨b, 0, none⟩), .int .u8 c] w (HPutR w b n l (Hd.put l s c)) := by
  have hp5 := hG.1
  by_cases hp : s.p ≤ 3
  · rw [Hd.st_open hp] at h
    have hcase : s.p = 0 ∨ s.p = 1 ∨ s.p = 2 ∨ s.p = 3 := by omega
    rcases hcase with hp0 | hp0 | hp0 | hp0
    · refine hput_go hp c w b n h 145 enH1 (by rw [hp0]; rfl) ?_
      by_cases hc : c = 80
      · subst hc; exact first_yes hl hG hp0 w b n h
      · exact first_no hl hG hp0 c c0 c1 hc w b n h
    · refine hput_go hp c w b n h 175 enH2 (by rw [hp0]; rfl) ?_
      by_cases hc : 49 ≤ c ∧ c ≤ 54
      · exact second_yes hl hG hp0 c hc.1 hc.2 w b n h
      · exact second_no hl hG hp0 c c0 c1 hc w b n h
    · refine hput_go hp c w b n h 194 enH3 (by rw [hp0]; rfl) ?_
      cases hb : Tk.blank c with
      | true => exact third_go hl hG hp0 c c0 c1 (.inl hb) true hb (.inl rfl) w b n h
      | false =>
        by_cases hc : c = 35
        · exact third_go hl hG hp0 c c0 c1 (.inr hc) false hb (.inr ⟨rfl, hc⟩) w b n h
        · exact third_no hl hG hp0 c c0 c1 hb hc w b n h
    · refine hput_go hp c w b n h 204 enHN (by rw [hp0]; rfl) ?_
      have hs : Hd.put l s c = Hd.inNum l s c := by unfold Hd.put; rw [if_neg (by omega), if_neg (by omega), if_neg (by omega), if_pos hp0]
      rw [hs]
      exact inNum_any hl hG hp0 c c0 c1 w b n h
  · have hs : Hd.put l s c = s := by unfold Hd.put; rw [if_neg (by omega), if_neg (by omega), if_neg (by omega), if_neg (by omega)]
    rw [hs]
    have h0 : Hd.st s ≠ 0 := by
      unfold Hd.st
      split
      · decide
      · rw [if_pos (by omega)]; decide
    refine (hput_done (Hd.st s) h0 c w b n h).mono ?_
    rintro e w' ⟨rfl, rfl⟩
    exact ⟨n, rfl, h, .refl _ _, .inl rfl⟩
set_option maxRecDepth 100000 in
set_option maxHeartbeats 2000000 in
theorem head_over {w : World} {b n : Nat} {l : Hd.L} {s : Hd.S} (h : HdX 1 w b n l s) :
    Calls Tryz.prog 102 #[.pointer (some ⟨b, 0, none⟩)] w fun e w' => e = .returned (.tuple #[agH (Hd.hd s), .int .i64 0]) ∧ Below w.heap.size w w' := by
  obtain ⟨_, nv, f, x, h1, h2, h3, h4⟩ := h
  have hc9 := h1.c9
  have hc0 := h1.c0
  have hc4 := h1.c4
  have hc5 := h1.c5
  have hc6 := h1.c6
  have hlt := h1.lt
  clear h1 h2 h3 h4
  unfold agH Hd.hd
  go_enter Tryz.func102, Tryz.ntmps102
  go_wp2_with fail
  have hBa : Below w.heap.size w (w.alloc (.cells #[.int .i64 0, .int .i64 0, .int .i64 0, .int .i64 0] 49)) := (Below.refl _ w).alloc (Nat.le_refl _) _
  have m9 := cell_later hBa hc9
  have m0 := cell_later hBa hc0
  have m4 := cell_later hBa hc4
  have m5 := cell_later hBa hc5
  have m6 := cell_later hBa hc6
  have hne : ¬ b = w.heap.size := Nat.ne_of_lt hlt
  go_region_held3 (fun w' => w'.cell? ⟨b, 0, none⟩ = some (.int .i64 s.kd) ∧ w'.cell? ⟨b, 4, none⟩ = some (.int .i64 s.v0) ∧ w'.cell? ⟨b, 5, none⟩ = some (.int .i64 s.v1) ∧ w'.cell? ⟨b, 6, none⟩ = some (.int .i64 s.v2)) (first | exact ⟨m0, m4, m5, m6⟩ | go_keep) (fail)
  go_wp2
  go_returns
  exact ⟨rfl, by go_grown⟩
set_option maxHeartbeats 2000000 in
theorem head_wrong {w : World} {b n : Nat} {l : Hd.L} {s : Hd.S} (hp : s.p = 5) (h : HdX 2 w b n l s) :
    Calls Tryz.prog 102 #[.pointer (some ⟨b, 0, none⟩)] w fun e w' => e = .returned (.tuple #[agH Hd.none, .int .i64 s.e]) ∧ Below w.heap.size w w' := by
  obtain ⟨_, nv, f, x, h1, h2, h3, h4⟩ := h
  obtain rfl := h4 hp
  have hc9 := h1.c9
  have hc10 := h1.c10
  obtain ⟨e, he⟩ : ∃ e, s.e = e := ⟨_, rfl⟩
  rw [he] at hc10 ⊢
  have hlt := h1.lt
  clear h1 h2 h3 h4 he
  unfold agH Hd.none
  go_enter Tryz.func102, Tryz.ntmps102
  go_wp2_with fail
  go_region_with (fail)
  all_goals
    go_wp2
    go_returns
    exact ⟨rfl, by go_grown⟩
set_option maxHeartbeats 2000000 in
theorem head_more {w : World} {b n : Nat} {l : Hd.L} {s : Hd.S} (h : HdX 0 w b n l s) :
    Calls Tryz.prog 102 #[.pointer (some ⟨b, 0, none⟩)] w fun e w' => e = .returned (.tuple #[agH Hd.none, .int .i64 9]) ∧ Below w.heap.size w w' := by
  obtain ⟨_, nv, f, x, h1, h2, h3, h4⟩ := h
  have hc9 := h1.c9
  have hlt := h1.lt
  clear h1 h2 h3 h4
  unfold agH Hd.none
  go_enter Tryz.func102, Tryz.ntmps102
  go_wp2
  go_returns
  exact ⟨rfl, by go_grown⟩
theorem head_s {w : World} {b n : Nat} {l : Hd.L} {s : Hd.S} (h : HdX (Hd.st s) w b n l s) :
    Calls Tryz.prog 102 #[.pointer (some ⟨b, 0, none⟩)] w fun e w' => e = .returned (.tuple #[agH (Hd.val s).1, .int .i64 (Hd.val s).2]) ∧ Below w.heap.size w w' := by
  have hp5 := h.1.1
  by_cases h4 : s.p = 4
  · have e1 : Hd.st s = 1 := by unfold Hd.st; rw [if_pos h4]
    have e2 : Hd.val s = (Hd.hd s, 0) := by unfold Hd.val; rw [if_pos h4]
    rw [e1] at h
    rw [e2]; exact head_over h
  by_cases h5 : s.p = 5
  · have e1 : Hd.st s = 2 := by unfold Hd.st; rw [if_neg h4, if_pos h5]
    have e2 : Hd.val s = (Hd.none, s.e) := by unfold Hd.val; rw [if_neg h4, if_pos h5]
    rw [e1] at h
    rw [e2]; exact head_wrong h5 h
  · have e2 : Hd.val s = (Hd.none, 9) := by unfold Hd.val; rw [if_neg h4, if_neg h5]
    rw [Hd.st_open (by omega)] at h
    rw [e2]; exact head_more h
end Go.Proofs.YtmnhiagppicegaaGreat

/- A reader of a head is made, over any memory. No condition. -/
namespace Go.Proofs.YtmnhiagppicegaaGreat
open Go.RowKit
set_option linter.unusedVariables false

set_option maxHeartbeats 2000000 in
theorem hnew_any (a b c : Int) (w : World) :
    Calls Tryz.prog 100 #[.agg #[.int .i64 a, .int .i64 b, .int .i64 c]] w fun e w' => ∃ k, e = .returned (.pointer (some ⟨k, 0, none⟩)) ∧ w.heap.size ≤ k ∧ HdX 0 w' k k (Hd.limits a b c) Hd.new ∧ Below w.heap.size w w' := by
  have hBt : Below w.heap.size w w := .refl _ _
  go_enter Tryz.func100, Tryz.ntmps100
  go_wp2_with fail
  obtain ⟨W, hW⟩ : ∃ W, w.alloc (Obj.cells #[Value.int IntKind.i64 a, Value.int IntKind.i64 b, Value.int IntKind.i64 c] 55) = W := ⟨_, rfl⟩
  have n0 : W.cell? ⟨w.heap.size, 0, none⟩ = some (.int .i64 a) := by rw [← hW]; simp [go_sem]
  have n1 : W.cell? ⟨w.heap.size, 1, none⟩ = some (.int .i64 b) := by rw [← hW]; simp [go_sem]
  have n2 : W.cell? ⟨w.heap.size, 2, none⟩ = some (.int .i64 c) := by rw [← hW]; simp [go_sem]
  have hB0 : Below w.heap.size w W := by rw [← hW]; exact hBt.alloc (Nat.le_refl _) _
  have hBw : Below W.heap.size W W := .refl _ _
  rw [hW]
  clear hW hBt
  go_region_held3 (fun w' => w'.cell? ⟨w.heap.size, 0, none⟩ = some (.int .i64 a) ∧ w'.cell? ⟨w.heap.size, 1, none⟩ = some (.int .i64 b) ∧ w'.cell? ⟨w.heap.size, 2, none⟩ = some (.int .i64 c))
    (first | exact ⟨n0, n1, n2⟩ | exact ⟨cell_later hBw n0, cell_later hBw n1, cell_later hBw n2⟩ | exact ⟨cell_later (hBw.alloc hBw.size _) n0, cell_later (hBw.alloc hBw.size _) n1, cell_later (hBw.alloc hBw.size _) n2⟩)
    (first
      | (go_at_call 132; refine (upTo_any _ _).mono ?_; rintro e w9 ⟨v, rfl, ⟨bk, rfl, hcl⟩, hb9⟩; replace hBw := bel_step (w := W) (by first | exact hBw | exact hBw.drew) hb9)
      | (go_at_call 167; refine (upTo1_any _ _ (by omega) _ _ hcl).mono ?_; rintro e w9 ⟨rfl, rfl⟩))
  all_goals
    go_wp2
    go_ret
    have hBz := hB0.trans (hBw.mono hB0.size)
    exact ⟨_, rfl, hBz.size, ⟨Hd.good_new (Hd.limits_ok a b c), _, _, _, World.alloc_heap_new w9 _, fun h => absurd h (show ¬ (0 : Nat) = 3 by decide), fun _ => rfl, fun h => absurd h (show ¬ (0 : Nat) = 5 by decide)⟩, hBz.alloc hBz.size _⟩
end Go.Proofs.YtmnhiagppicegaaGreat

/- The head that a text begins with, over any memory. Condition: the text is short. -/
namespace Go.Proofs.YtmnhiagppicegaaGreat
open Go.RowKit
set_option linter.unusedVariables false

/-- what Parse hands back -/
def hcnt (r : Hd.H × Int × Int) : Int := if r.2.2 = 0 then r.2.1 else 0
def HParR (s : ByteArray) (l : Hd.L) (w : World) (e : Ending) (w' : World) : Prop :=
  e = .returned (.tuple #[agH (Hd.parseV l (bytesOf s)).1, .int .i64 (hcnt (Hd.parseV l (bytesOf s))), .int .i64 (Hd.parseV l (bytesOf s)).2.2]) ∧ Below w.heap.size w w'
theorem hpar_fin {s : ByteArray} {l : Hd.L} {w w' : World} {h : Hd.H} {u er n : Int} {val : Value} (hv : Hd.parseV l (bytesOf s) = (h, u, er)) (hn : n = if er = 0 then u else 0) (hval : val = agH h) (hB : Below w.heap.size w w') :
    HParR s l w (.returned (.tuple #[val, .int .i64 n, .int .i64 er])) w' := by
  unfold HParR hcnt
  rw [hv, hn, hval]
  exact ⟨rfl, hB⟩
theorem Sep.bel2 {b n : Nat} {B : Nat} {a w w' : World} (h : Below B a w) (hs : Sep (two b n) w w') (hB : B ≤ w.heap.size) (h1 : B ≤ b) (h2 : B ≤ n) : Below B a w' :=
  h.trans ⟨hs.os, hs.tape, hs.output, hs.size, fun k hk => hs.block k (Nat.lt_of_lt_of_le hk hB) (fun e => e.elim (fun e => by omega) (fun e => by omega))⟩
theorem two_ne {b n k : Nat} (h1 : k ≠ b) (h2 : k ≠ n) : ¬ two b n k := fun e => e.elim h1 h2
set_option maxRecDepth 100000 in
set_option maxHeartbeats 4000000 in
theorem hparse_any (s : ByteArray) (hs : s.size ≤ 100000) (a b c : Int) (w : World) :
    Calls Tryz.prog 57 #[.string s, .agg #[.int .i64 a, .int .i64 b, .int .i64 c]] w (HParR s (Hd.limits a b c) w) := by
  have HL := Lib.hid (Hd.limits_ok a b c)
  go_enter Tryz.func57, Tryz.ntmps57
  go_wp2_with fail
  refine (hnew_any a b c _).mono ?_
  rintro e w1 ⟨k, rfl, hk, hX, hB⟩
  obtain ⟨W, hW⟩ : ∃ W, w.alloc (Obj.cells #[Value.int IntKind.i64 a, Value.int IntKind.i64 b, Value.int IntKind.i64 c] 55) = W := ⟨_, rfl⟩
  have hBW : Below w.heap.size w W := by rw [← hW]; exact (Below.refl _ w).alloc (Nat.le_refl _) _
  have hWz : W.heap.size = w.heap.size + 1 := by rw [← hW]; simp
  rw [hW] at hk hB
  have hH0 := Hb.new W 49 Hd.none
  have HH1 := Lib.hid (hH0.later hB)
  have hB1 : Below w.heap.size w w1 := (hBW.alloc hBW.size (.cells #[.int .i64 0, .int .i64 0, .int .i64 0, .int .i64 0] 49)).trans (hB.mono (by simp; omega))
  obtain ⟨rb, hrb⟩ : ∃ rb, w.heap.size + 1 = rb := ⟨_, rfl⟩
  have hrbk : rb < k := by have : W.heap.size < k := by (have h := hk; simp at h; omega)
                           omega
  have hwk : w.heap.size ≤ k := by omega
  rw [hWz, hrb] at HH1
  have HX1 := Lib.hid hX
  have HB1 := Lib.hid hB1
  obtain ⟨L, hL⟩ : ∃ L, Hd.limits a b c = L := ⟨_, rfl⟩
  rw [hL] at HL HX1
  have HLE := Lib.hid hL
  have HK := Lib.hid hrbk
  have HWK := Lib.hid hwk
  have HWR := Lib.hid (show w.heap.size ≤ rb by omega)
  clear hW hBW hWz hk hB hH0 hB1 hX hL hrbk hwk
  simp only [hrb]
  clear hrb
  go_wp2_with fail
  go_loopw [15] (fun u15 wr => ∃ (i n : Nat) (t : Hd.S), i ≤ s.size ∧ u15 = .int .i64 i ∧ HdX 0 wr k n L t ∧ t.p ≤ 3 ∧ w.heap.size ≤ n ∧ rb ≠ n ∧ Hb wr rb 49 Hd.none ∧ Below w.heap.size w wr ∧ Hd.parseV L (bytesOf s) = Hd.parseF L t i ((bytesOf s).drop i)) (fun u15 _ => s.size - (intOf u15).toNat)
  case atStart => exact ⟨0, k, Hd.new, Nat.zero_le _, rfl, HX1.out, by decide, HWK.out, by have := HK.out; omega, HH1.out, HB1.out, rfl⟩
  case round =>
    obtain ⟨i, n, t, hi1, rfl, hX, hp, hwn, hrn, hH, hB, hV⟩ := hrel
    have hG := hX.1
    have HX := Lib.hid hX
    have HH := Lib.hid hH
    have HB := Lib.hid hB
    have hrk : rb ≠ k := by have := HK.out; omega
    have hwk := HWK.out
    have hwz := HB.out.size
    by_cases hlt : i < s.size
    · rw [bytesOf_drop s i hlt, Hd.parse_cons i _ _ hp] at hV
      have c0 : (0 : Int) ≤ (s[i].toNat : Int) := by omega
      have c1 : (s[i].toNat : Int) ≤ 255 := by have := s[i].toNat_lt; omega
      obtain ⟨t', ht'⟩ : ∃ t', Hd.put L t (s[i].toNat : Int) = t' := ⟨_, rfl⟩
      have HP := hput_any HL.out hG (s[i].toNat : Int) c0 c1 wr k n (by rw [Hd.st_open hp]; exact hX)
      have hG' := Hd.good_put HL.out hG (s[i].toNat : Int)
      rw [ht'] at HP hG' hV
      have hp5 := hG'.1
      have HV : Hid (Hd.parseV L (bytesOf s) = Hd.parseF L t' (i + 1) ((bytesOf s).drop (i + 1))) := hV
      by_cases h4 : t'.p = 4
      · have HV2 : Hid (Hd.parseV L (bytesOf s) = (Hd.hd t', ((i + 1 : Nat) : Int), 0)) := by show _ = _; rw [HV.out, Hd.parse_over _ _ h4]
        have hst : Hd.st t' = 1 := by unfold Hd.st; rw [if_pos h4]
        have hval : Hd.val t' = (Hd.hd t', 0) := by unfold Hd.val; rw [if_pos h4]
        have HPC : Hid (Calls Tryz.prog 101 #[.pointer (some ⟨k, 0, none⟩), .int .u8 (s[i].toNat : Int)] wr fun e w' => ∃ n', e = .returned (.int .i64 1) ∧ HdX (Hd.st t') w' k n' L t' ∧ Sep (two k n) wr w' ∧ (n' = n ∨ wr.heap.size ≤ n')) := HP.mono fun e w' ⟨n', a1, a2⟩ => ⟨n', by rw [a1, hst], a2⟩
        have HHC : Hid (∀ W n', HdX (Hd.st t') W k n' L t' → Calls Tryz.prog 102 #[.pointer (some ⟨k, 0, none⟩)] W fun e w' => e = .returned (.tuple #[agH (Hd.hd t'), .int .i64 0]) ∧ Below W.heap.size W w') := fun W n' h => (head_s h).mono fun e w' hh => ⟨by rw [hh.1, hval], hh.2⟩
        clear HP hG' hV hX hB hH hval hst ht' hG HV h4
        generalize Hd.hd t' = H at HV2 HHC
        unfold agH at HHC
        go_wp2_with fail
        refine HPC.out.mono ?_
        rintro e w2 ⟨n', rfl, hX2, hs2, hn2⟩
        have hB2 := Sep.bel2 HB.out hs2 hwz hwk hwn
        have hH2 := HH.out.sep hs2 (two_ne hrk hrn)
        have HX2 := Lib.hid hX2
        have HB2 := Lib.hid hB2
        have HH2 := Lib.hid hH2
        clear hX2 hs2 hB2 hH2
        go_wp2_with fail
        refine (HHC.out _ _ HX2.out).mono ?_
        rintro e w3 ⟨rfl, hb3⟩
        have HH3 := Lib.hid (HH2.out.later hb3)
        have HB3 := Lib.hid (HB2.out.trans (hb3.mono HB2.out.size))
        obtain ⟨d0, d1, d2, d3⟩ := HH3.out.cells
        obtain ⟨f0, f1, f2, f3⟩ := HH3.out.fr
        have hlt3 := HH3.out.lt
        have hne3 : ¬ rb = w3.heap.size := Nat.ne_of_lt hlt3
        have hii : (i : Int) + 1 ≤ 9223372036854775807 := by omega
        have hwrb := HWR.out
        have hwz3 := HB3.out.size
        clear hb3
        go_wp2
        refine bodyPost_ret (Hj.ret3 Tryz.results57 _ _ _ _ rfl (load_hd ((HH3.out.put H).alloc _))) rfl ?_
        rw [HLE.out]; exact hpar_fin HV2.out (by rw [if_pos rfl]; go_num) rfl (Below.alloc ((((HB3.out.setCell hwrb _).setCell hwrb _).setCell hwrb _).setCell hwrb _) (by simp only [World.size_setCell]; exact hwz3) _)
      by_cases h5 : t'.p = 5
      · have HV2 : Hid (Hd.parseV L (bytesOf s) = (Hd.none, ((i + 1 : Nat) : Int), t'.e)) := by show _ = _; rw [HV.out, Hd.parse_wrong _ _ h5]
        have hst : Hd.st t' = 2 := by unfold Hd.st; rw [if_neg h4, if_pos h5]
        have hval : Hd.val t' = (Hd.none, t'.e) := by unfold Hd.val; rw [if_neg h4, if_pos h5]
        have hez := hG'.2.2.2.2.2.2.1 h5
        have he0 : (t'.e != 0) = true := by simp; omega
        have hen : ¬ t'.e = 0 := by omega
        have HPC : Hid (Calls Tryz.prog 101 #[.pointer (some ⟨k, 0, none⟩), .int .u8 (s[i].toNat : Int)] wr fun e w' => ∃ n', e = .returned (.int .i64 2) ∧ HdX (Hd.st t') w' k n' L t' ∧ Sep (two k n) wr w' ∧ (n' = n ∨ wr.heap.size ≤ n')) := HP.mono fun e w' ⟨n', a1, a2⟩ => ⟨n', by rw [a1, hst], a2⟩
        have HHC : Hid (∀ W n', HdX (Hd.st t') W k n' L t' → Calls Tryz.prog 102 #[.pointer (some ⟨k, 0, none⟩)] W fun e w' => e = .returned (.tuple #[agH Hd.none, .int .i64 t'.e]) ∧ Below W.heap.size W w') := fun W n' h => (head_s h).mono fun e w' hh => ⟨by rw [hh.1, hval], hh.2⟩
        clear HP hG' hV hX hB hH hval hst ht' hG HV h4 hez
        obtain ⟨er, her⟩ : ∃ er, t'.e = er := ⟨_, rfl⟩
        rw [her] at HV2 HHC he0 hen
        have HEN := Lib.hid hen
        clear her hen
        unfold agH Hd.none at HHC
        go_wp2_with fail
        refine HPC.out.mono ?_
        rintro e w2 ⟨n', rfl, hX2, hs2, hn2⟩
        have hB2 := Sep.bel2 HB.out hs2 hwz hwk hwn
        have hH2 := HH.out.sep hs2 (two_ne hrk hrn)
        have HX2 := Lib.hid hX2
        have HB2 := Lib.hid hB2
        have HH2 := Lib.hid hH2
        clear hX2 hs2 hB2 hH2
        go_wp2_with fail
        refine (HHC.out _ _ HX2.out).mono ?_
        rintro e w3 ⟨rfl, hb3⟩
        have HH3 := Lib.hid (HH2.out.later hb3)
        have HB3 := Lib.hid (HB2.out.trans (hb3.mono HB2.out.size))
        obtain ⟨d0, d1, d2, d3⟩ := HH3.out.cells
        obtain ⟨f0, f1, f2, f3⟩ := HH3.out.fr
        have hlt3 := HH3.out.lt
        have hne3 : ¬ rb = w3.heap.size := Nat.ne_of_lt hlt3
        have hwrb := HWR.out
        have hwz3 := HB3.out.size
        clear hb3
        go_wp2
        refine bodyPost_ret (Hj.ret3 Tryz.results57 _ _ _ _ rfl (load_hd ((HH3.out.put Hd.none).alloc _))) rfl ?_
        rw [HLE.out]; exact hpar_fin HV2.out (if_neg HEN.out).symm rfl (Below.alloc ((((HB3.out.setCell hwrb _).setCell hwrb _).setCell hwrb _).setCell hwrb _) (by simp only [World.size_setCell]; exact hwz3) _)
      · have HPC : Hid (Calls Tryz.prog 101 #[.pointer (some ⟨k, 0, none⟩), .int .u8 (s[i].toNat : Int)] wr fun e w' => ∃ n', e = .returned (.int .i64 0) ∧ HdX 0 w' k n' L t' ∧ Sep (two k n) wr w' ∧ (n' = n ∨ wr.heap.size ≤ n')) := HP.mono fun e w' ⟨n', a1, a2⟩ => ⟨n', by rw [a1, Hd.st_open (by omega)], by rw [Hd.st_open (by omega)] at a2; exact a2⟩
        have hp3 : t'.p ≤ 3 := by omega
        clear HP hG' hV hX hB hH ht' hG h4 h5
        go_wp2_with (go_at_call 101; refine HPC.out.mono ?_; rintro e w2 ⟨n', rfl, hX2, hs2, hn2⟩; have HS2 := Lib.hid hs2; have HX2 := Lib.hid hX2; have HN2 := Lib.hid hn2; clear hX2 hs2 hn2)
        go_roundw
        case rel =>
          have hlt3 := HH.out.lt
          exact ⟨i + 1, n', t', by omega, by go_num, HX2.out, hp3, HN2.out.elim (fun e => by omega) (fun e => by omega), HN2.out.elim (fun e => by omega) (fun e => by omega), HH.out.sep HS2.out (two_ne hrk hrn), Sep.bel2 HB.out HS2.out hwz hwk hwn, HV.out⟩
        case measure => simp [intOf]; omega
    · have HV2 : Hid (Hd.parseV L (bytesOf s) = (Hd.none, (i : Int), 6)) := by show _ = _; rw [hV, List.drop_eq_nil_of_le (by rw [bytesOf_length]; omega), Hd.parse_nil _ hp]
      obtain ⟨d0, d1, d2, d3⟩ := hH.cells
      obtain ⟨f0, f1, f2, f3⟩ := hH.fr
      have hwrb := HWR.out
      clear hV hX hB hH hG
      go_wp2
      refine bodyPost_ret (Hj.ret3 Tryz.results57 _ _ _ _ rfl (load_hd (HH.out.put Hd.none))) rfl ?_
      rw [HLE.out]; exact hpar_fin HV2.out (if_neg (by decide)).symm rfl ((((HB.out.setCell hwrb _).setCell hwrb _).setCell hwrb _).setCell hwrb _)
end Go.Proofs.YtmnhiagppicegaaGreat

/- What Unpack, May, Format and Fits come to, over any memory, of pix and of the document's own answer. Condition: numbers fit their kinds. -/
import Derived.Test.YtldhhhmihfcalaaZQPixA
import Derived.Test.YtldhhhmihfcalaaZgAA
import Derived.Test.YtldhhhmihfcalaaZTokC
import Derived.Deep.RegionHeld3
import Derived.Lib.Hide
namespace Go.Proofs.Ytldhhhmihfcalaa
open Go.RowKit
set_option linter.unusedVariables false
namespace Pq
/-- Integers in memory of the call's own. -/
def Own (base : Nat) (w : World) (ad : Option Addr) (zs : List Int) : Prop :=
  zs = [] ∨ ∃ g, ad = some ⟨g, 0, none⟩ ∧ base ≤ g ∧ g < w.heap.size ∧ (∀ i, i < zs.length → w.cell? ⟨g, i, none⟩ = some (.int .i64 (zs.getD i 0))) ∧ (∀ i, i < zs.length → w.frozen? ⟨g, i, none⟩ = false)
theorem Own.sl {base : Nat} {w : World} {ad : Option Addr} {zs : List Int} (h : Own base w ad zs) : Sl w ad zs.length zs := by
  refine ⟨rfl, ?_⟩
  rcases h with rfl | ⟨g, h1, _, _, h2, _⟩
  · exact .inl rfl
  · exact .inr ⟨g, 0, h1, fun i hi => by simpa using h2 i hi⟩
theorem Own.mono {base base' : Nat} {w : World} {ad : Option Addr} {zs : List Int} (h : Own base w ad zs) (hb : base' ≤ base) : Own base' w ad zs := by
  rcases h with h | ⟨g, h1, h2, h3⟩
  · exact .inl h
  · exact .inr ⟨g, h1, Nat.le_trans hb h2, h3⟩
theorem Own.later {base : Nat} {w w' : World} {ad : Option Addr} {zs : List Int} (h : Own base w ad zs) (hb : Below w.heap.size w w') : Own base w' ad zs := by
  rcases h with rfl | ⟨g, h1, h2, h3, h4, h5⟩
  · exact .inl rfl
  · exact .inr ⟨g, h1, h2, by have := hb.size; omega, fun i hi => cell_later hb (h4 i hi), fun i hi => by rw [hb.frozen (p := ⟨g, i, none⟩) h3]; exact h5 i hi⟩
theorem own_row {base : Nat} {w : World} {v : Value} {n : Nat} {zs : List Int} (hn : zs.length = n) (h : w.ownsRow base 3 1 v n (zs.map (Value.int .i64))) :
    ∃ ad cap, v = .slice ad n cap ∧ Own base w ad zs := by
  have H := h
  obtain ⟨h1, h2⟩ := h
  rcases h2 with ⟨rfl, rfl⟩ | ⟨g, cap, cur, rfl, hb, hg, hle, hm, hsz, htk⟩
  · exact ⟨none, 0, rfl, .inl (by cases zs with | nil => rfl | cons => simp at hn)⟩
  · refine ⟨_, cap, rfl, .inr ⟨g, rfl, hb, (H.lt g rfl).2, fun i hi => ?_, fun i hi => H.frozenAt i⟩⟩
    have hi' : i < (zs.map (Value.int .i64)).length := by simpa using hi
    have e : cur[i]? = some (.int .i64 (zs.getD i 0)) := by
      have : (zs.map (Value.int .i64))[i]? = some (.int .i64 (zs.getD i 0)) := by
        rw [List.getElem?_map, List.getElem?_eq_getElem hi, List.getD_eq_getElem?_getD, List.getElem?_eq_getElem hi]; rfl
      rw [← htk, List.getElem?_take_of_lt (by simp at hi'; omega)] at this
      simpa using this
    simp [World.cell?, hg, e]
theorem own_lit (w : World) (cs : Array Value) (zs : List Int) (h : cs.toList = zs.map (Value.int .i64)) : Own w.heap.size (w.alloc (.cells cs 3)) (some ⟨w.heap.size, 0, none⟩) zs := by
  refine .inr ⟨w.heap.size, rfl, Nat.le_refl _, by simp, fun i hi => ?_, fun i hi => by simp [go_sem]⟩
  rw [World.cell?_alloc_at _ _ _ _ rfl]
  have : cs[i]? = cs.toList[i]? := by simp
  rw [this, h, List.getElem?_map, List.getElem?_eq_getElem hi, List.getD_eq_getElem?_getD, List.getElem?_eq_getElem hi]; rfl
/-- a result that is a slice of one's own -/
def OutSl (w : World) (zs : List Int) (e : Ending) (w' : World) : Prop :=
  ∃ ad cap, e = .returned (.slice ad zs.length cap) ∧ Own w.heap.size w' ad zs ∧ Below w.heap.size w w'

theorem addr_add (b off j : Nat) : (⟨b, off, none⟩ : Addr).add j = ⟨b, off + j, none⟩ := by cases j <;> simp [Addr.add]
theorem Try.info_int : (Try.prog.info? 3).map (fun i => (i.zero, i.size, i.bytes)) = some (some (.int .i64 0), 1, 8) := by kernel_rfl

theorem clone_some (b off len cap : Nat) (zs : List Int) (w : World) (hz : zs.length = len) (hlen : len * 8 ≤ 140737488355328)
    (hc : ∀ i, i < len → w.cell? ⟨b, off + i, none⟩ = some (.int .i64 (zs.getD i 0))) :
    Calls Try.prog 120 #[.slice (some ⟨b, off, none⟩) len cap] w (OutSl w zs) := by
  obtain ⟨i0, hi, hz0, hz1, hz2⟩ := info_parts Try.info_int
  have hn := Lib.run_eql_slice_nil (P := Try.prog)
  have hni : ∀ i, (zs.map (Value.int .i64))[i]? = (zs[i]?).map (Value.int .i64) := fun i => List.getElem?_map ..
  have HN := Lib.hid hni; clear hni
  have HC := Lib.hid hc; clear hc
  have hb1 : len ≤ maxLen := by unfold maxLen; omega
  have HZ := Lib.hid hz; clear hz
  by_cases h0 : len = 0
  · subst h0
    have hz' : zs = [] := List.eq_nil_of_length_eq_zero HZ.out
    subst hz'
    go_enter Try.func120, Try.ntmps120
    go_wp2_with (at_builtin; refine wpList_append_fits _ rfl (.tmp 5) (.tmp 6) 75 rfl w.heap.size 3 i0 1 Try.underlying75 hi hz1 w.heap.size 0 0 [] rfl ?own ⟨b, off, none⟩ 0 cap [] rfl rfl ?c1 ?c2 (Nat.le_refl _) ?grow)
    case own => exact World.ownsRow_made w #[] 0 (Nat.le_refl _) (by unfold maxLen; omega) rfl
    case c1 => intro j u hj; simp at hj
    case c2 => intro u hu; simp at hu
    case grow =>
      intro w' hown hgrow
      go_wp2
      go_ret
      exact ⟨_, 0, rfl, .inl rfl, ((Below.refl _ _).alloc (Nat.le_refl _) _).grown hgrow (by simp) (fun k h => by cases h; exact Nat.le_refl _)⟩
  · go_enter Try.func120, Try.ntmps120
    go_wp2_with (at_builtin; refine wpList_append_grows _ rfl (.tmp 5) (.tmp 6) 75 rfl 3 i0 (.int .i64 0) 1 8 Try.underlying75 hi hz0 hz1 hz2 rfl (by decide) (some ⟨w.heap.size, 0, none⟩) 0 0 [] rfl (fun h => by cases h) rfl (by intro _ _ _ _ h; simp at h) ⟨b, off, none⟩ len cap (zs.map (Value.int .i64)) rfl ?c0 ?c1 ?c2 ?b0 ?b1 ?b2 ?grow)
    case c0 => simpa using HZ.out
    case c1 =>
      intro j u hj
      rw [HN.out] at hj
      have hj' : j < zs.length := by
        rcases Nat.lt_or_ge j zs.length with h | h
        · exact h
        · rw [List.getElem?_eq_none h] at hj; cases hj
      have hj2 : u = .int .i64 (zs.getD j 0) := by
        rw [List.getElem?_eq_getElem hj'] at hj
        rw [List.getD_eq_getElem?_getD, List.getElem?_eq_getElem hj']; simpa using hj.symm
      rw [hj2]
      have := HC.out j (by rw [← HZ.out]; exact hj')
      have hbb : b < w.heap.size := block_lt_of_cell this
      rw [addr_add, World.cell?_alloc_past _ _ _ hbb]
      exact this
    case c2 => intro u hu; simp at hu; obtain ⟨n, _, rfl⟩ := hu; rfl
    case b0 => omega
    case b1 => omega
    case b2 => omega
    case grow =>
      intro v' w' hown hgrow
      go_wp2
      go_ret
      have hbel : Below w.heap.size w w' := ((Below.refl _ _).alloc (Nat.le_refl _) _).grown hgrow (by simp) (fun k h => by cases h)
      obtain ⟨ad, cp, hv, ho⟩ := own_row (zs := zs) (n := 0 + len) (by rw [HZ.out]; omega) (by simpa using hown)
      have e := HZ.out
      refine ⟨ad, cp, ?_, ho.mono (by simp), hbel⟩
      rw [e, ← Nat.zero_add len, ← hv]; rfl

theorem unpack_any (p : Int) (hU : Px.U p) (w : World) :
    Calls Try.prog 93 #[.int .u64 p] w (OutSl w (Px.smp p)) := by
  rcases Px.tri hU with ⟨a, b, c, h⟩ | ⟨a, h⟩ | h
  · have X := Lib.hid (Px.smp3 h)
    go_enter Try.func93, Try.ntmps93
    go_wp2_with (go_at_call 119; refine (split3 p a b c h _).mono ?_; rintro e w1 ⟨rfl, hb1⟩)
    refine (clone_some _ 0 3 _ [a, b, c] _ rfl (by omega) ?_).mono ?_
    · intro i hi
      obtain rfl | rfl | rfl : i = 0 ∨ i = 1 ∨ i = 2 := by omega
      all_goals simp [go_sem]
    rintro e w2 ⟨ad, cap, rfl, ho, hb2⟩
    go_wp2
    go_ret
    refine ⟨ad, cap, by rw [X.out]; rfl, by rw [X.out]; exact ho.mono (by have := hb1.size; simp; omega), ?_⟩
    exact ((hb1.alloc (by have := hb1.size; omega) _).trans (hb2.mono (B' := w.heap.size) (by have := hb1.size; simp; omega)))
  · have X := Lib.hid (Px.smp1 h)
    go_enter Try.func93, Try.ntmps93
    go_wp2_with (go_at_call 119; refine (split1 p a h _).mono ?_; rintro e w1 ⟨rfl, hb1⟩)
    refine (clone_some _ 0 1 _ [a] _ rfl (by omega) ?_).mono ?_
    · intro i hi
      obtain rfl : i = 0 := by omega
      all_goals simp [go_sem]
    rintro e w2 ⟨ad, cap, rfl, ho, hb2⟩
    go_wp2
    go_ret
    refine ⟨ad, cap, by rw [X.out]; rfl, by rw [X.out]; exact ho.mono (by have := hb1.size; simp; omega), ?_⟩
    exact ((hb1.alloc (by have := hb1.size; omega) _).trans (hb2.mono (B' := w.heap.size) (by have := hb1.size; simp; omega)))
  · have X := Lib.hid (Px.smp0 h)
    go_enter Try.func93, Try.ntmps93
    go_wp2_with (go_at_call 119; refine (split0 p hU h _).mono ?_; rintro e w1 ⟨rfl, hb1⟩)
    refine (clone_some _ 0 0 _ [] _ rfl (by omega) ?_).mono ?_
    · intro i hi
      omega
      
    rintro e w2 ⟨ad, cap, rfl, ho, hb2⟩
    go_wp2
    go_ret
    refine ⟨ad, cap, by rw [X.out]; rfl, by rw [X.out]; exact ho.mono (by have := hb1.size; simp; omega), ?_⟩
    exact ((hb1.alloc (by have := hb1.size; omega) _).trans (hb2.mono (B' := w.heap.size) (by have := hb1.size; simp; omega)))


theorem refUnpack_any (p : Int) (hU : Px.U p) (w : World) :
    Calls Try.prog 54 #[.int .u64 p] w (OutSl w (Px.smp p)) := by
  rcases Px.tri hU with ⟨a, b, c, h⟩ | ⟨a, h⟩ | h
  · have X := Lib.hid (Px.smp3 h)
    obtain ⟨hp, ha0, ha1, hb0, hb1, hc0, hc1⟩ := h
    have k3 : (p / 281474976710656 == 3) = true := by rw [beq_iff_eq]; omega
    have e1 : 0 ≤ p % 281474976710656 := by omega
    have e2 : p % 281474976710656 < 281474976710656 := by omega
    have x := Lib.hid (show [p % 281474976710656 / 4294967296, p % 281474976710656 / 65536 % 65536, p % 65536] = [a, b, c] by rw [show p % 281474976710656 / 4294967296 = a by omega, show p % 281474976710656 / 65536 % 65536 = b by omega, show p % 65536 = c by omega])
    obtain ⟨h0, h1⟩ := hU
    clear hp
    go_enter Try.func54, Try.ntmps54
    go_wp2
    go_ret
    exact ⟨_, 3, by rw [X.out]; rfl, by rw [X.out, ← x.out]; exact own_lit w _ _ rfl, (Below.refl _ _).alloc (Nat.le_refl _) _⟩
  · have X := Lib.hid (Px.smp1 h)
    obtain ⟨hp, ha0, ha1⟩ := h
    have k3 : (p / 281474976710656 == 3) = false := by rw [beq_eq_false_iff_ne]; omega
    have k1 : (p / 281474976710656 == 1) = true := by rw [beq_iff_eq]; omega
    have e1 : 0 ≤ p % 281474976710656 := by omega
    have e2 : p % 281474976710656 < 65536 := by omega
    have x := Lib.hid (show [p % 281474976710656] = [a] by rw [show p % 281474976710656 = a by omega])
    obtain ⟨h0, h1⟩ := hU
    clear hp
    go_enter Try.func54, Try.ntmps54
    go_wp2
    go_ret
    exact ⟨_, 1, by rw [X.out]; rfl, by rw [X.out, ← x.out]; exact own_lit w _ _ rfl, (Below.refl _ _).alloc (Nat.le_refl _) _⟩
  · have X := Lib.hid (Px.smp0 h)
    obtain ⟨h3, h2⟩ := h
    unfold Px.hiP at h3 h2
    unfold Px.loP at h2
    obtain ⟨h0, h1⟩ := hU
    have k3 : (p / 281474976710656 == 3) = false := by rw [beq_eq_false_iff_ne]; omega
    have e1 : 0 ≤ p % 281474976710656 := by omega
    have e2 : p % 281474976710656 < 281474976710656 := by omega
    by_cases hh : p / 281474976710656 = 1
    · have k1 : (p / 281474976710656 == 1) = true := by rw [beq_iff_eq]; omega
      have e3 : ¬ p % 281474976710656 < 65536 := by omega
      clear h3 h2 hh
      go_enter Try.func54, Try.ntmps54
      go_wp2
      go_ret
      exact ⟨none, 0, by rw [X.out]; rfl, by rw [X.out]; exact .inl rfl, Below.refl _ _⟩
    · have k1 : (p / 281474976710656 == 1) = false := by rw [beq_eq_false_iff_ne]; omega
      clear h3 h2 hh
      go_enter Try.func54, Try.ntmps54
      go_wp2
      go_ret
      exact ⟨none, 0, by rw [X.out]; rfl, by rw [X.out]; exact .inl rfl, Below.refl _ _⟩

end Pq
end Go.Proofs.Ytldhhhmihfcalaa

/- How many digits pixels have, over any memory. Condition: not too many pixels. -/
namespace Go.Proofs.Ytldhhhmihfcalaa
open Go.RowKit
set_option linter.unusedVariables false
namespace Pl
def dgL : List Int → Int
  | [] => 0
  | s :: r => Nu.places s + dgL r
def dgA : List Int → Int
  | [] => 0
  | p :: r => dgL (Pq.Px.smp p) + dgA r
theorem dgL_append (a b : List Int) : dgL (a ++ b) = dgL a + dgL b := by
  induction a with
  | nil => simp [dgL]
  | cons x r ih => simp only [List.cons_append, dgL, ih]; omega
theorem dgA_append (a b : List Int) : dgA (a ++ b) = dgA a + dgA b := by
  induction a with
  | nil => simp [dgA]
  | cons x r ih => simp only [List.cons_append, dgA, ih]; omega
theorem take_getD (l : List Int) (k : Nat) (h : k < l.length) : l.take (k + 1) = l.take k ++ [l.getD k 0] := by
  rw [List.take_succ_eq_append_getElem h, List.getD_eq_getElem?_getD, List.getElem?_eq_getElem h]; rfl
theorem dgL_succ (l : List Int) (k : Nat) (h : k < l.length) : dgL (l.take (k + 1)) = dgL (l.take k) + Nu.places (l.getD k 0) := by
  rw [take_getD l k h, dgL_append]; simp [dgL]
theorem dgA_succ (l : List Int) (k : Nat) (h : k < l.length) : dgA (l.take (k + 1)) = dgA (l.take k) + dgL (Pq.Px.smp (l.getD k 0)) := by
  rw [take_getD l k h, dgA_append]; simp [dgA]
theorem decV_len (n : Int) : ((Nu.decV n).length : Int) = Nu.places n := by
  unfold Nu.decV Nu.backV Nu.places
  rw [List.length_reverse, List.length_append, List.length_map]
  split <;> simp <;> omega
theorem places_in {n : Int} (hn : Nu.I n) : 0 ≤ Nu.places n ∧ Nu.places n ≤ 66 := by
  have := Nu.decV_len hn
  rw [← decV_len]; omega
theorem smp_in {p : Int} (hU : Pq.Px.U p) : (Pq.Px.smp p).length ≤ 3 ∧ ∀ s ∈ Pq.Px.smp p, 0 ≤ s ∧ s ≤ 65535 := by
  rcases Pq.Px.tri hU with ⟨a, b, c, h⟩ | ⟨a, h⟩ | h
  · rw [Pq.Px.smp3 h]
    obtain ⟨_, h⟩ := h
    refine ⟨by simp, fun s hs => ?_⟩
    simp only [List.mem_cons, List.not_mem_nil, or_false] at hs
    omega
  · rw [Pq.Px.smp1 h]
    obtain ⟨_, h⟩ := h
    refine ⟨by simp, fun s hs => ?_⟩
    simp only [List.mem_cons, List.not_mem_nil, or_false] at hs
    omega
  · rw [Pq.Px.smp0 h]
    exact ⟨by simp, fun s hs => by cases hs⟩
theorem dgL_in : ∀ {l : List Int}, (∀ s ∈ l, Nu.I s) → 0 ≤ dgL l ∧ dgL l ≤ 66 * l.length
  | [], _ => by simp [dgL]
  | s :: r, h => by
    have h1 := places_in (h s (List.mem_cons_self ..))
    have h2 := dgL_in (l := r) fun x hx => h x (List.mem_cons_of_mem _ hx)
    simp only [dgL, List.length_cons]; omega
theorem smp_I {p : Int} (hU : Pq.Px.U p) : ∀ s ∈ Pq.Px.smp p, Nu.I s := fun s hs => by have := (smp_in hU).2 s hs; unfold Nu.I; omega
theorem dgA_in : ∀ {l : List Int}, (∀ p ∈ l, Pq.Px.U p) → 0 ≤ dgA l ∧ dgA l ≤ 198 * l.length
  | [], _ => by simp [dgA]
  | p :: r, h => by
    have hU := h p (List.mem_cons_self ..)
    have h1 := dgL_in (smp_I hU)
    have h3 := (smp_in hU).1
    have h2 := dgA_in (l := r) fun x hx => h x (List.mem_cons_of_mem _ hx)
    simp only [dgA, List.length_cons]; omega
end Pl
theorem getD_mem {l : List Int} {k : Nat} (h : k < l.length) : l.getD k 0 ∈ l := by
  rw [List.getD_eq_getElem?_getD, List.getElem?_eq_getElem h]; exact List.getElem_mem h
set_option maxHeartbeats 4000000 in
theorem plDigits_any (a : Option Addr) (n cap : Nat) (l : List Int) (hn : n ≤ 1000) (hl : ∀ p ∈ l, Pq.Px.U p) (w : World) (hs : SlK .u64 w a n l) :
    Calls Try.prog 55 #[.slice a n cap] w fun e w' => e = .returned (.int .i64 (Pl.dgA l)) ∧ Below w.heap.size w w' := by
  have HS := Lib.hid hs
  have HU := Lib.hid hl
  have HL := Lib.hid hs.1
  clear hs hl
  go_enter Try.func55, Try.ntmps55
  go_wp2_with fail
  go_loopw [3, 10] (fun u3 u10 wr => ∃ k : Nat, k ≤ n ∧ u10 = .int .i64 k ∧ u3 = .int .i64 (Pl.dgA (l.take k)) ∧ Below w.heap.size w wr) (fun _ u10 _ => n - (intOf u10).toNat)
  case atStart => exact ⟨0, Nat.zero_le _, rfl, rfl, .refl _ _⟩
  case round =>
    obtain ⟨k, hk, rfl, rfl, hB⟩ := hrel
    have HB := Lib.hid hB
    clear hB
    by_cases hlt : k < n
    · obtain ⟨p, hp⟩ : ∃ p, l.getD k 0 = p := ⟨_, rfl⟩
      have hkl : k < l.length := by rw [HL.out]; exact hlt
      have hU : Pq.Px.U p := by rw [← hp]; exact HU.out _ (getD_mem hkl)
      have HZ := Lib.hid (Pl.dgA_succ l k hkl)
      have hdA := Pl.dgA_in (l := l.take k) fun q hq => HU.out q (List.mem_of_mem_take hq)
      have hLT : (l.take k).length ≤ 1000 := by rw [List.length_take]; omega
      have hsi := Pl.smp_in hU
      have HI := Lib.hid (Pl.smp_I hU)
      have HUP := Lib.hid (Pq.unpack_any p hU)
      obtain ⟨zs, hzs⟩ : ∃ zs, Pq.Px.smp p = zs := ⟨_, rfl⟩
      obtain ⟨A, hA⟩ : ∃ A, Pl.dgA (l.take k) = A := ⟨_, rfl⟩
      rw [hp, hzs, hA] at HZ
      rw [hzs] at HI HUP hsi
      rw [hA] at hdA ⊢
      obtain ⟨m, hm⟩ : ∃ m, zs.length = m := ⟨_, rfl⟩
      have HML := Lib.hid hm
      have hm3 : m ≤ 3 := by have := hsi.1; omega
      have hA0 : 0 ≤ A := hdA.1
      have hA1 : A ≤ 198000 := by omega
      obtain ⟨blk, off, rfl, hcell⟩ : ∃ blk off, a = some ⟨blk, off, none⟩ ∧ wr.cell? ⟨blk, off + k, none⟩ = some (.int .u64 p) := by
        rcases HS.out.2 with h | ⟨blk, off, rfl, hc⟩
        · omega
        · exact ⟨blk, off, rfl, cell_later HB.out (by rw [hc k hlt, hp])⟩
      clear hp hU hdA hLT hsi hzs hA hm hkl
      go_wp2_with fail
      refine (HUP.out _).mono ?_
      rintro e w2 ⟨ad, cp, rfl, hO, hb2⟩
      rw [HML.out]
      have HO := Lib.hid hO.sl
      have HB2 := Lib.hid hb2
      clear hO hb2 hcell
      go_wp2_with fail
      go_loopw [3, 17] (fun u3 u17 wi => ∃ j : Nat, j ≤ m ∧ u17 = .int .i64 j ∧ u3 = .int .i64 (A + Pl.dgL (zs.take j)) ∧ Below w2.heap.size w2 wi) (fun _ u17 _ => m - (intOf u17).toNat)
      case atStart => exact ⟨0, Nat.zero_le _, rfl, by simp [Pl.dgL], .refl _ _⟩
      case round =>
        obtain ⟨j, hj, rfl, rfl, hC⟩ := hrel
        have HC := Lib.hid hC
        clear hC
        by_cases hjt : j < m
        · obtain ⟨s, hs⟩ : ∃ s, zs.getD j 0 = s := ⟨_, rfl⟩
          have hjl : j < zs.length := by rw [HML.out]; exact hjt
          have hsI : Nu.I s := by rw [← hs]; exact HI.out _ (getD_mem hjl)
          have HY := Lib.hid (Pl.dgL_succ zs j hjl)
          have hdL := Pl.dgL_in (l := zs.take j) fun q hq => HI.out q (List.mem_of_mem_take hq)
          have hTL : (zs.take j).length ≤ 3 := by rw [List.length_take]; omega
          have hpl := Pl.places_in hsI
          have HPL := Lib.hid (places_any s hsI)
          obtain ⟨B, hB⟩ : ∃ B, Pl.dgL (zs.take j) = B := ⟨_, rfl⟩
          obtain ⟨q, hq⟩ : ∃ q, Nu.places s = q := ⟨_, rfl⟩
          rw [hs, hB, hq] at HY
          rw [hB] at hdL ⊢
          rw [hq] at HPL hpl
          obtain ⟨b2, o2, rfl, hcell⟩ : ∃ blk off, ad = some ⟨blk, off, none⟩ ∧ wr.cell? ⟨blk, off + j, none⟩ = some (.int .i64 s) := by
            rcases HO.out.2 with h | ⟨blk, off, rfl, hc⟩
            · rw [HML.out] at h; omega
            · exact ⟨blk, off, rfl, cell_later HC.out (by rw [hc j (by rw [HML.out]; exact hjt), hs])⟩
          have q0 : 0 ≤ A + B := by omega
          have q1 : A + B ≤ 200000 := by omega
          have q2 : 0 ≤ q := hpl.1
          have q3 : q ≤ 66 := hpl.2
          obtain ⟨X, hX⟩ : ∃ X, A + B = X := ⟨_, rfl⟩
          rw [hX] at q0 q1 ⊢
          have HX := Lib.hid hX
          have g1 : wrap64 (X + q) = X + q := by rw [IntWalk.wrap64_in] <;> omega
          clear hs hsI hjl hdL hTL hpl hB hq hX
          go_wp2_with (go_at_call 94; refine (HPL.out _).mono ?_; rintro e w3 ⟨rfl, hb3⟩; have HB3 := Lib.hid hb3; clear hb3)
          go_roundw
          case rel => exact ⟨j + 1, by omega, by go_num, by rw [HY.out]; have := HX.out; rw [show A + (B + q) = X + q by omega], HC.out.trans (HB3.out.mono HC.out.size)⟩
          case measure => simp [intOf]; omega
        · have hje : j = m := by omega
          have HF : Hid (zs.take j = zs) := Lib.hid (List.take_of_length_le (by rw [HML.out]; omega))
          clear hje
          go_wp2_with fail
          go_roundw
          case rel => exact ⟨k + 1, by omega, by go_num, by rw [HZ.out, HF.out], HB.out.trans ((HB2.out.trans (HC.out.mono HB2.out.size)).mono HB.out.size)⟩
          case measure => simp [intOf]; omega
    · have HF : Hid (l.take k = l) := Lib.hid (List.take_of_length_le (by rw [HL.out]; omega))
      rw [HF.out]
      go_wp2
      go_ret
      exact ⟨rfl, HB.out⟩
end Go.Proofs.Ytldhhhmihfcalaa

/- A reader of a number is told a byte, by the code and by the document, as one plain function; a text's first bytes. Condition: its greatest number fits. -/
namespace Go.Proofs.Ytldhhhmihfcalaa
open Go.RowKit
set_option linter.unusedVariables false

def nxt (k b : Nat) : Value := if k = 0 then nxA b else if k = 1 then nxR b else if k = 2 then nxD b else nxB b
/-- a reader in the block b is where s says -/
def RdS (w : World) (b : Nat) (m : Int) (s : Tk.S) : Prop :=
  Tk.Good m s ∧ ∃ v f x, RdC w b m v s.bg (Tk.st s) f x ∧ (s.k ≤ 4 → v = s.n) ∧ (s.k ≤ 3 → x = nxt s.k b) ∧ (s.k = 5 → f = s.e)
theorem RdS.lt {w : World} {b : Nat} {m : Int} {s : Tk.S} (h : RdS w b m s) : b < w.heap.size := by obtain ⟨_, v, f, x, h1, _⟩ := h; exact h1.lt
theorem RdS.kept {w w' : World} {row : Option Nat} {b : Nat} {m : Int} {s : Tk.S} (h : RdS w b m s) (hg : w.grownBy w' row) (hne : some b ≠ row) : RdS w' b m s := by
  obtain ⟨hG, v, f, x, h1, h2⟩ := h; exact ⟨hG, v, f, x, h1.kept hg hne, h2⟩
theorem RdS.later {w w' : World} {b : Nat} {m : Int} {s : Tk.S} (h : RdS w b m s) (hb : Below w.heap.size w w') : RdS w' b m s := by
  obtain ⟨hG, v, f, x, h1, h2⟩ := h; exact ⟨hG, v, f, x, h1.later hb, h2⟩
theorem tokNew_s (m : Int) (m0 : 0 ≤ m) (w : World) :
    Calls Try.prog 139 #[.int .i64 m] w fun e w' => e = .returned (.pointer (some ⟨w.heap.size, 0, none⟩)) ∧ RdS w' w.heap.size m Tk.new ∧ Below w.heap.size w w' := by
  refine (tokNew_any m w).mono ?_
  rintro e w' ⟨rfl, h, hb⟩
  exact ⟨rfl, ⟨Tk.good_new m0, 0, 0, _, h, fun _ => rfl, fun _ => rfl, fun h => absurd h (by decide)⟩, hb⟩
def PutR (w : World) (b : Nat) (m : Int) (s : Tk.S) (e : Ending) (w' : World) : Prop :=
  e = .returned (.int .i64 (Tk.st s)) ∧ RdS w' b m s ∧ w.grownBy w' (some b)
theorem enA : ∀ args w, (callFunc 144 args).run Try.prog w = .ok (.enter 144 args) w := enters_of Try.func144 (by kernel_rfl) rfl
theorem enR : ∀ args w, (callFunc 145 args).run Try.prog w = .ok (.enter 145 args) w := enters_of Try.func145 (by kernel_rfl) rfl
theorem enD : ∀ args w, (callFunc 146 args).run Try.prog w = .ok (.enter 146 args) w := enters_of Try.func146 (by kernel_rfl) rfl
theorem enB : ∀ args w, (callFunc 149 args).run Try.prog w = .ok (.enter 149 args) w := enters_of Try.func149 (by kernel_rfl) rfl
/-- both what the code and what the document do with a byte, told together -/
theorem put_both {m : Int} {s : Tk.S} (hG : Tk.Good m s) (m1 : m ≤ 4611686018427387903) (c : Int) (c0 : 0 ≤ c) (c1 : c ≤ 255) :
    (∀ w b, RdS w b m s → Calls Try.prog 140 #[.pointer (some ⟨b, 0, none⟩), .int .u8 c] w (PutR w b m (Tk.put m s c))) ∧
    (∀ w, Calls Try.prog 72 #[agS s.k s.n m s.e, .int .u8 c] w (RpR w (Tk.put m s c).k (Tk.put m s c).n m (Tk.put m s c).e (Tk.st (Tk.put m s c)))) := by
  have hG' := Tk.good_put hG c
  generalize ht : Tk.put m s c = t at hG' ⊢
  obtain ⟨k, n, e, bg⟩ := s
  have H := hG
  obtain ⟨h1, h2, h3, h4, h5, h6, h7, h8⟩ := H
  simp only at h1 h2 h3 h4 h5 h6 h7 h8
  have L10 : Tk.line 10 = true := by decide
  have L13 : Tk.line 13 = true := by decide
  have fin : ∀ (w : World) (b : Nat) (v : Int) (f : Int) (x : Value), (t.k ≤ 4 → v = t.n) → (t.k ≤ 3 → x = nxt t.k b) → (t.k = 5 → f = t.e) → ∀ e' w', (e' = Ending.returned (.int .i64 (Tk.st t)) ∧ RdC w' b m v t.bg (Tk.st t) f x ∧ w.grownBy w' (some b)) → PutR w b m t e' w' := fun w b v f x a1 a2 a3 e' w' hh => ⟨hh.1, ⟨hG', v, f, x, hh.2.1, a1, a2, a3⟩, hh.2.2⟩
  have hk : k = 0 ∨ k = 1 ∨ k = 2 ∨ k = 3 ∨ k = 4 ∨ k = 5 := by omega
  have nl : Tk.line c = false → (c == 10) = false ∧ (c == 13) = false := fun h => by unfold Tk.line at h; simp at h; simp; exact h
  have yl : Tk.line c = true → c = 10 ∨ c = 13 := fun h => by unfold Tk.line at h; simpa using h
  rcases hk with rfl | rfl | rfl | rfl | rfl | rfl
  · -- ahead
    obtain ⟨rfl, rfl⟩ := h7 (by omega)
    have h9 := h4 (by omega); subst h9
    have open' : ∀ w b, RdS w b m ⟨0, 0, 9, false⟩ → ∃ f, RdC w b m 0 false 0 f (nxA b) := fun w b hr => by
      obtain ⟨_, v, f, x, r1, r2, r3, _⟩ := hr
      have := r2 (by simp); simp only at this; subst this
      have := r3 (by simp); subst this
      exact ⟨f, r1⟩
    by_cases hc : c = 35
    · subst hc
      have ht' : t = ⟨1, 0, 9, false⟩ := by rw [← ht]; rfl
      subst ht'
      refine ⟨fun w b hr => ?_, fun w => rp_a35 0 m 9 w⟩
      obtain ⟨f, hr⟩ := open' w b hr
      exact (put_next w b _ m 0 false f 35 m 0 false f (nxR b) 0 enA hr (ahead_rem w b m 0 false f 35 c0 c1 rfl hr)).mono (fin w b 0 f (nxR b) (fun _ => rfl) (fun _ => rfl) (fun h => absurd h (by simp)))
    by_cases hb : Tk.blank c = true
    · have ht' : t = ⟨0, 0, 9, false⟩ := by rw [← ht]; simp [Tk.put, hc, hb]
      subst ht'
      refine ⟨fun w b hr => ?_, fun w => ?_⟩
      · obtain ⟨f, hr⟩ := open' w b hr
        exact (put_next w b _ m 0 false f c m 0 false f (nxA b) 0 enA hr (ahead_blank w b m 0 false f c c0 c1 hb hr)).mono (fin w b 0 f (nxA b) (fun _ => rfl) (fun _ => rfl) (fun h => absurd h (by simp)))
      · by_cases hl : Tk.line c = true
        · rcases yl hl with rfl | rfl
          · exact rp_a10 0 m 9 w
          · exact rp_a13 0 m 9 w
        · obtain ⟨a1, a2⟩ := nl (by simpa using hl)
          exact rp_a_blank 0 m 9 c c0 c1 a1 a2 (by simpa using hc) hb w
    have hb' : Tk.blank c = false := by simpa using hb
    have hnl : Tk.line c = false := by
      cases e : Tk.line c with
      | false => rfl
      | true => rcases yl e with rfl | rfl <;> exact absurd hb' (by decide)
    obtain ⟨a1, a2⟩ := nl hnl
    obtain ⟨p, hp⟩ : ∃ p, Nu.stepV 0 c m = p := ⟨_, rfl⟩
    obtain ⟨v, er⟩ := p
    by_cases he : er = 0
    · subst he
      have ht' : t = ⟨2, v, 9, true⟩ := by rw [← ht]; simp [Tk.put, hc, hb', hp]
      subst ht'
      refine ⟨fun w b hr => ?_, fun w => rp_a_yes 0 m 9 c c0 c1 a1 a2 (by simpa using hc) hb' h2 h3 m1 v hp w⟩
      obtain ⟨f, hr⟩ := open' w b hr
      exact (put_next w b _ m 0 false f c m v true f (nxD b) 0 enA hr (ahead_yes w b m 0 false f c c0 c1 hb' hc h2 h3 m1 v hp hr)).mono (fin w b v f (nxD b) (fun _ => rfl) (fun _ => rfl) (fun h => absurd h (by simp)))
    · have ht' : t = ⟨5, 0, er, false⟩ := by rw [← ht]; simp [Tk.put, hc, hb', hp, he]
      subst ht'
      refine ⟨fun w b hr => ?_, fun w => rp_a_no 0 m 9 c c0 c1 a1 a2 (by simpa using hc) hb' h2 h3 m1 v er hp he w⟩
      obtain ⟨f, hr⟩ := open' w b hr
      exact (put_next w b _ m 0 false f c m 0 false er (nxD b) 2 enA hr (ahead_no w b m 0 false f c c0 c1 hb' hc h2 h3 m1 v er hp he hr)).mono (fin w b 0 er (nxD b) (fun _ => rfl) (fun h => absurd h (by simp)) (fun _ => rfl))
  · -- a remark ahead
    obtain ⟨rfl, rfl⟩ := h7 (by omega)
    have h9 := h4 (by omega); subst h9
    have open' : ∀ w b, RdS w b m ⟨1, 0, 9, false⟩ → ∃ f, RdC w b m 0 false 0 f (nxR b) := fun w b hr => by
      obtain ⟨_, v, f, x, r1, r2, r3, _⟩ := hr
      have := r2 (by simp); simp only at this; subst this
      have := r3 (by simp); subst this
      exact ⟨f, r1⟩
    by_cases hl : Tk.line c = true
    · have ht' : t = ⟨0, 0, 9, false⟩ := by rw [← ht]; simp [Tk.put, hl]
      subst ht'
      refine ⟨fun w b hr => ?_, fun w => ?_⟩
      · obtain ⟨f, hr⟩ := open' w b hr
        exact (put_next w b _ m 0 false f c m 0 false f (nxA b) 0 enR hr (remA_line w b m 0 false f c c0 c1 hl hr)).mono (fin w b 0 f (nxA b) (fun _ => rfl) (fun _ => rfl) (fun h => absurd h (by simp)))
      · rcases yl hl with rfl | rfl
        · exact rp_remA10 0 m 9 w
        · exact rp_remA13 0 m 9 w
    · have hl' : Tk.line c = false := by simpa using hl
      have ht' : t = ⟨1, 0, 9, false⟩ := by rw [← ht]; simp [Tk.put, hl']
      subst ht'
      obtain ⟨a1, a2⟩ := nl hl'
      refine ⟨fun w b hr => ?_, fun w => rp_remA_not 0 m 9 c c0 c1 a1 a2 w⟩
      obtain ⟨f, hr⟩ := open' w b hr
      exact (put_next w b _ m 0 false f c m 0 false f (nxR b) 0 enR hr (remA_not w b m 0 false f c c0 c1 hl' hr)).mono (fin w b 0 f (nxR b) (fun _ => rfl) (fun _ => rfl) (fun h => absurd h (by simp)))
  · -- digits
    have hbg := h8 (by omega) (by omega); subst hbg
    have h9 := h4 (by omega); subst h9
    have open' : ∀ w b, RdS w b m ⟨2, n, 9, true⟩ → ∃ f, RdC w b m n true 0 f (nxD b) := fun w b hr => by
      obtain ⟨_, v, f, x, r1, r2, r3, _⟩ := hr
      have := r2 (by simp); simp only at this; subst this
      have := r3 (by simp); subst this
      exact ⟨f, r1⟩
    by_cases hc : c = 35
    · subst hc
      have ht' : t = ⟨3, n, 9, true⟩ := by rw [← ht]; rfl
      subst ht'
      refine ⟨fun w b hr => ?_, fun w => rp_d35 n m 9 w⟩
      obtain ⟨f, hr⟩ := open' w b hr
      exact (put_next w b _ m n true f 35 m n true f (nxB b) 0 enD hr (digit_rem w b m n true f 35 c0 c1 rfl hr)).mono (fin w b n f (nxB b) (fun _ => rfl) (fun _ => rfl) (fun h => absurd h (by simp)))
    by_cases hb : Tk.blank c = true
    · have ht' : t = ⟨4, n, 0, true⟩ := by rw [← ht]; simp [Tk.put, hc, hb]
      subst ht'
      refine ⟨fun w b hr => ?_, fun w => ?_⟩
      · obtain ⟨f, hr⟩ := open' w b hr
        exact (put_next w b _ m n true f c m n true f (nxD b) 1 enD hr (digit_blank w b m n true f c c0 c1 hb hr)).mono (fin w b n f (nxD b) (fun _ => rfl) (fun h => absurd h (by simp)) (fun h => absurd h (by simp)))
      · by_cases hl : Tk.line c = true
        · rcases yl hl with rfl | rfl
          · exact rp_d10 n m 9 w
          · exact rp_d13 n m 9 w
        · obtain ⟨a1, a2⟩ := nl (by simpa using hl)
          exact rp_d_blank n m 9 c c0 c1 a1 a2 (by simpa using hc) hb w
    have hb' : Tk.blank c = false := by simpa using hb
    have hnl : Tk.line c = false := by
      cases e : Tk.line c with
      | false => rfl
      | true => rcases yl e with rfl | rfl <;> exact absurd hb' (by decide)
    obtain ⟨a1, a2⟩ := nl hnl
    obtain ⟨p, hp⟩ : ∃ p, Nu.stepV n c m = p := ⟨_, rfl⟩
    obtain ⟨v, er⟩ := p
    by_cases he : er = 0
    · subst he
      have ht' : t = ⟨2, v, 9, true⟩ := by rw [← ht]; simp [Tk.put, hc, hb', hp]
      subst ht'
      refine ⟨fun w b hr => ?_, fun w => rp_d_yes n m 9 c c0 c1 a1 a2 (by simpa using hc) hb' h2 h3 m1 v hp w⟩
      obtain ⟨f, hr⟩ := open' w b hr
      exact (put_next w b _ m n true f c m v true f (nxD b) 0 enD hr (digit_yes w b m n true f c c0 c1 hb' hc h2 h3 m1 v hp hr)).mono (fin w b v f (nxD b) (fun _ => rfl) (fun _ => rfl) (fun h => absurd h (by simp)))
    · have ht' : t = ⟨5, 0, er, true⟩ := by rw [← ht]; simp [Tk.put, hc, hb', hp, he]
      subst ht'
      refine ⟨fun w b hr => ?_, fun w => rp_d_no n m 9 c c0 c1 a1 a2 (by simpa using hc) hb' h2 h3 m1 v er hp he w⟩
      obtain ⟨f, hr⟩ := open' w b hr
      exact (put_next w b _ m n true f c m n true er (nxD b) 2 enD hr (digit_no w b m n true f c c0 c1 hb' hc h2 h3 m1 v er hp he hr)).mono (fin w b n er (nxD b) (fun h => absurd h (by simp)) (fun h => absurd h (by simp)) (fun _ => rfl))
  · -- a remark behind
    have hbg := h8 (by omega) (by omega); subst hbg
    have h9 := h4 (by omega); subst h9
    have open' : ∀ w b, RdS w b m ⟨3, n, 9, true⟩ → ∃ f, RdC w b m n true 0 f (nxB b) := fun w b hr => by
      obtain ⟨_, v, f, x, r1, r2, r3, _⟩ := hr
      have := r2 (by simp); simp only at this; subst this
      have := r3 (by simp); subst this
      exact ⟨f, r1⟩
    by_cases hl : Tk.line c = true
    · have ht' : t = ⟨4, n, 0, true⟩ := by rw [← ht]; simp [Tk.put, hl]
      subst ht'
      refine ⟨fun w b hr => ?_, fun w => ?_⟩
      · obtain ⟨f, hr⟩ := open' w b hr
        exact (put_next w b _ m n true f c m n true f (nxB b) 1 enB hr (remB_line w b m n true f c c0 c1 hl hr)).mono (fin w b n f (nxB b) (fun _ => rfl) (fun h => absurd h (by simp)) (fun h => absurd h (by simp)))
      · rcases yl hl with rfl | rfl
        · exact rp_remB10 n m 9 w
        · exact rp_remB13 n m 9 w
    · have hl' : Tk.line c = false := by simpa using hl
      have ht' : t = ⟨3, n, 9, true⟩ := by rw [← ht]; simp [Tk.put, hl']
      subst ht'
      obtain ⟨a1, a2⟩ := nl hl'
      refine ⟨fun w b hr => ?_, fun w => rp_remB_not n m 9 c c0 c1 a1 a2 w⟩
      obtain ⟨f, hr⟩ := open' w b hr
      exact (put_next w b _ m n true f c m n true f (nxB b) 0 enB hr (remB_not w b m n true f c c0 c1 hl' hr)).mono (fin w b n f (nxB b) (fun _ => rfl) (fun _ => rfl) (fun h => absurd h (by simp)))
  · -- over
    have ht' : t = ⟨4, n, e, bg⟩ := by rw [← ht]; rfl
    subst ht'
    refine ⟨fun w b hr => ?_, fun w => rp_over n m e c w⟩
    have hr' := hr
    obtain ⟨_, v, f, x, r1, _⟩ := hr
    refine (put_done w b m v bg f c 1 x (by decide) r1).mono ?_
    rintro e' w' ⟨rfl, rfl⟩
    exact ⟨rfl, hr', .refl _ _⟩
  · -- wrong
    have ht' : t = ⟨5, n, e, bg⟩ := by rw [← ht]; rfl
    subst ht'
    refine ⟨fun w b hr => ?_, fun w => rp_wrong n m e c w⟩
    have hr' := hr
    obtain ⟨_, v, f, x, r1, _⟩ := hr
    refine (put_done w b m v bg f c 2 x (by decide) r1).mono ?_
    rintro e' w' ⟨rfl, rfl⟩
    exact ⟨rfl, hr', .refl _ _⟩
end Go.Proofs.Ytldhhhmihfcalaa

/- A reader of a head in a block of its own, over any memory: what it is made of; where a number may be at most, as a function made for it. No condition. -/
namespace Go.Proofs.Ytldhhhmihfcalaa
open Go.RowKit
set_option linter.unusedVariables false

/-- the twelve cells of a reader of a head -/
def HdC (w : World) (b : Nat) (kd m0 m1 m2 v0 v1 v2 i : Int) (nv : Value) (t f : Int) (x : Value) : Prop :=
  w.heap[b]? = some (.cells #[.int .i64 kd, .int .i64 m0, .int .i64 m1, .int .i64 m2, .int .i64 v0, .int .i64 v1, .int .i64 v2, .int .i64 i, nv, .int .i64 t, .int .i64 f, x] 123 (0, 0))
section
variable {w w' : World} {b : Nat} {kd m0 m1 m2 v0 v1 v2 i : Int} {nv : Value} {t f : Int} {x : Value}
theorem HdC.lt (h : HdC w b kd m0 m1 m2 v0 v1 v2 i nv t f x) : b < w.heap.size := (Array.getElem?_eq_some_iff.1 h).1
theorem HdC.later (h : HdC w b kd m0 m1 m2 v0 v1 v2 i nv t f x) (hb : Below w.heap.size w w') : HdC w' b kd m0 m1 m2 v0 v1 v2 i nv t f x := (hb.block b h.lt).trans h
theorem HdC.kept {row : Option Nat} (h : HdC w b kd m0 m1 m2 v0 v1 v2 i nv t f x) (hg : w.grownBy w' row) (hne : some b ≠ row) : HdC w' b kd m0 m1 m2 v0 v1 v2 i nv t f x := (hg.block b h.lt hne).trans h
theorem HdC.sep {Z : Nat → Prop} (h : HdC w b kd m0 m1 m2 v0 v1 v2 i nv t f x) (hs : Sep Z w w') (hz : ¬ Z b) : HdC w' b kd m0 m1 m2 v0 v1 v2 i nv t f x := (hs.block b h.lt hz).trans h
theorem HdC.drewN (h : HdC w b kd m0 m1 m2 v0 v1 v2 i nv t f x) (k : Nat) : HdC (w.drewN k) b kd m0 m1 m2 v0 v1 v2 i nv t f x := h
theorem HdC.fr (h : HdC w b kd m0 m1 m2 v0 v1 v2 i nv t f x) (o : Nat) : w.frozen? ⟨b, o, none⟩ = false := by have h' : w.heap[b]? = _ := h; simp [World.frozen?, h']
theorem HdC.c0 (h : HdC w b kd m0 m1 m2 v0 v1 v2 i nv t f x) : w.cell? ⟨b, 0, none⟩ = some (.int .i64 kd) := by have h' : w.heap[b]? = _ := h; simp [World.cell?, h']
theorem HdC.c1 (h : HdC w b kd m0 m1 m2 v0 v1 v2 i nv t f x) : w.cell? ⟨b, 1, none⟩ = some (.int .i64 m0) := by have h' : w.heap[b]? = _ := h; simp [World.cell?, h']
theorem HdC.c2 (h : HdC w b kd m0 m1 m2 v0 v1 v2 i nv t f x) : w.cell? ⟨b, 2, none⟩ = some (.int .i64 m1) := by have h' : w.heap[b]? = _ := h; simp [World.cell?, h']
theorem HdC.c3 (h : HdC w b kd m0 m1 m2 v0 v1 v2 i nv t f x) : w.cell? ⟨b, 3, none⟩ = some (.int .i64 m2) := by have h' : w.heap[b]? = _ := h; simp [World.cell?, h']
theorem HdC.c4 (h : HdC w b kd m0 m1 m2 v0 v1 v2 i nv t f x) : w.cell? ⟨b, 4, none⟩ = some (.int .i64 v0) := by have h' : w.heap[b]? = _ := h; simp [World.cell?, h']
theorem HdC.c5 (h : HdC w b kd m0 m1 m2 v0 v1 v2 i nv t f x) : w.cell? ⟨b, 5, none⟩ = some (.int .i64 v1) := by have h' : w.heap[b]? = _ := h; simp [World.cell?, h']
theorem HdC.c6 (h : HdC w b kd m0 m1 m2 v0 v1 v2 i nv t f x) : w.cell? ⟨b, 6, none⟩ = some (.int .i64 v2) := by have h' : w.heap[b]? = _ := h; simp [World.cell?, h']
theorem HdC.c7 (h : HdC w b kd m0 m1 m2 v0 v1 v2 i nv t f x) : w.cell? ⟨b, 7, none⟩ = some (.int .i64 i) := by have h' : w.heap[b]? = _ := h; simp [World.cell?, h']
theorem HdC.c8 (h : HdC w b kd m0 m1 m2 v0 v1 v2 i nv t f x) : w.cell? ⟨b, 8, none⟩ = some (nv) := by have h' : w.heap[b]? = _ := h; simp [World.cell?, h']
theorem HdC.c9 (h : HdC w b kd m0 m1 m2 v0 v1 v2 i nv t f x) : w.cell? ⟨b, 9, none⟩ = some (.int .i64 t) := by have h' : w.heap[b]? = _ := h; simp [World.cell?, h']
theorem HdC.c10 (h : HdC w b kd m0 m1 m2 v0 v1 v2 i nv t f x) : w.cell? ⟨b, 10, none⟩ = some (.int .i64 f) := by have h' : w.heap[b]? = _ := h; simp [World.cell?, h']
theorem HdC.c11 (h : HdC w b kd m0 m1 m2 v0 v1 v2 i nv t f x) : w.cell? ⟨b, 11, none⟩ = some (x) := by have h' : w.heap[b]? = _ := h; simp [World.cell?, h']
theorem HdC.put0 (h : HdC w b kd m0 m1 m2 v0 v1 v2 i nv t f x) (y : Int) : HdC (w.setCell ⟨b, 0, none⟩ (.int .i64 y)) b y m0 m1 m2 v0 v1 v2 i nv t f x := by
  have h' : w.heap[b]? = _ := h
  simpa [HdC] using Go.heap_setCell_same w b 0 _ _ (.int .i64 y) h'
theorem HdC.put4 (h : HdC w b kd m0 m1 m2 v0 v1 v2 i nv t f x) (y : Int) : HdC (w.setCell ⟨b, 4, none⟩ (.int .i64 y)) b kd m0 m1 m2 y v1 v2 i nv t f x := by
  have h' : w.heap[b]? = _ := h
  simpa [HdC] using Go.heap_setCell_same w b 4 _ _ (.int .i64 y) h'
theorem HdC.put5 (h : HdC w b kd m0 m1 m2 v0 v1 v2 i nv t f x) (y : Int) : HdC (w.setCell ⟨b, 5, none⟩ (.int .i64 y)) b kd m0 m1 m2 v0 y v2 i nv t f x := by
  have h' : w.heap[b]? = _ := h
  simpa [HdC] using Go.heap_setCell_same w b 5 _ _ (.int .i64 y) h'
theorem HdC.put6 (h : HdC w b kd m0 m1 m2 v0 v1 v2 i nv t f x) (y : Int) : HdC (w.setCell ⟨b, 6, none⟩ (.int .i64 y)) b kd m0 m1 m2 v0 v1 y i nv t f x := by
  have h' : w.heap[b]? = _ := h
  simpa [HdC] using Go.heap_setCell_same w b 6 _ _ (.int .i64 y) h'
theorem HdC.put7 (h : HdC w b kd m0 m1 m2 v0 v1 v2 i nv t f x) (y : Int) : HdC (w.setCell ⟨b, 7, none⟩ (.int .i64 y)) b kd m0 m1 m2 v0 v1 v2 y nv t f x := by
  have h' : w.heap[b]? = _ := h
  simpa [HdC] using Go.heap_setCell_same w b 7 _ _ (.int .i64 y) h'
theorem HdC.put8 (h : HdC w b kd m0 m1 m2 v0 v1 v2 i nv t f x) (y : Value) : HdC (w.setCell ⟨b, 8, none⟩ (y)) b kd m0 m1 m2 v0 v1 v2 i y t f x := by
  have h' : w.heap[b]? = _ := h
  simpa [HdC] using Go.heap_setCell_same w b 8 _ _ (y) h'
theorem HdC.put9 (h : HdC w b kd m0 m1 m2 v0 v1 v2 i nv t f x) (y : Int) : HdC (w.setCell ⟨b, 9, none⟩ (.int .i64 y)) b kd m0 m1 m2 v0 v1 v2 i nv y f x := by
  have h' : w.heap[b]? = _ := h
  simpa [HdC] using Go.heap_setCell_same w b 9 _ _ (.int .i64 y) h'
theorem HdC.put10 (h : HdC w b kd m0 m1 m2 v0 v1 v2 i nv t f x) (y : Int) : HdC (w.setCell ⟨b, 10, none⟩ (.int .i64 y)) b kd m0 m1 m2 v0 v1 v2 i nv t y x := by
  have h' : w.heap[b]? = _ := h
  simpa [HdC] using Go.heap_setCell_same w b 10 _ _ (.int .i64 y) h'
theorem HdC.put11 (h : HdC w b kd m0 m1 m2 v0 v1 v2 i nv t f x) (y : Value) : HdC (w.setCell ⟨b, 11, none⟩ (y)) b kd m0 m1 m2 v0 v1 v2 i nv t f y := by
  have h' : w.heap[b]? = _ := h
  simpa [HdC] using Go.heap_setCell_same w b 11 _ _ (y) h'
end
def nxH1 (b : Nat) : Value := .func (.func 74) #[.pointer (some ⟨b, 0, none⟩)] #[]
theorem enH1 : ∀ args w, (callFunc 74 args).run Try.prog w = .ok (.enter 74 args) w := enters_of Try.func74 (by kernel_rfl) rfl
def nxH2 (b : Nat) : Value := .func (.func 106) #[.pointer (some ⟨b, 0, none⟩)] #[]
theorem enH2 : ∀ args w, (callFunc 106 args).run Try.prog w = .ok (.enter 106 args) w := enters_of Try.func106 (by kernel_rfl) rfl
def nxH3 (b : Nat) : Value := .func (.func 123) #[.pointer (some ⟨b, 0, none⟩)] #[]
theorem enH3 : ∀ args w, (callFunc 123 args).run Try.prog w = .ok (.enter 123 args) w := enters_of Try.func123 (by kernel_rfl) rfl
def nxHN (b : Nat) : Value := .func (.func 136) #[.pointer (some ⟨b, 0, none⟩)] #[]
theorem enHN : ∀ args w, (callFunc 136 args).run Try.prog w = .ok (.enter 136 args) w := enters_of Try.func136 (by kernel_rfl) rfl

/-- a function that brings a number to where it may be -/
def UpV (w : World) (v : Value) (m : Int) : Prop := ∃ b, v = .func (.func 104) #[] #[.pointer (some ⟨b, 0, none⟩)] ∧ w.cell? ⟨b, 0, none⟩ = some (.int .i64 m)
theorem UpV.later {w w' : World} {v : Value} {m : Int} (h : UpV w v m) (hb : Below w.heap.size w w') : UpV w' v m := by
  obtain ⟨b, h1, h2⟩ := h; exact ⟨b, h1, cell_later hb h2⟩
theorem enU : ∀ args w, (callFunc 104 args).run Try.prog w = .ok (.enter 104 args) w := enters_of Try.func104 (by kernel_rfl) rfl
set_option maxHeartbeats 1000000 in
theorem upTo_any (m : Int) (w : World) :
    Calls Try.prog 73 #[.int .i64 m] w fun e w' => ∃ v, e = .returned v ∧ UpV w' v m ∧ Below w.heap.size w w' := by
  go_enter Try.func73, Try.ntmps73
  go_wp2
  go_ret
  exact ⟨_, rfl, ⟨_, rfl, by simp [go_sem]⟩, by go_grown⟩
set_option maxHeartbeats 1000000 in
theorem upTo1_any (n m : Int) (m1 : 1 ≤ m) (b : Nat) (w : World) (hc : w.cell? ⟨b, 0, none⟩ = some (.int .i64 m)) :
    Calls Try.prog 104 #[.int .i64 n, .pointer (some ⟨b, 0, none⟩)] w fun e w' => e = .returned (.int .i64 (Hd.lim n m)) ∧ w = w' := by
  by_cases h1 : n < 1
  · have X := Lib.hid (show Hd.lim n m = 1 by unfold Hd.lim; rw [if_pos h1])
    have h2 : ¬ m < 1 := by omega
    go_enter Try.func104, Try.ntmps104
    go_wp2
    go_ret
    exact ⟨Ar.ret_i X.out.symm, rfl⟩
  by_cases h2 : m < n
  · have X := Lib.hid (show Hd.lim n m = m by unfold Hd.lim; rw [if_neg h1, if_pos h2])
    go_enter Try.func104, Try.ntmps104
    go_wp2
    go_ret
    exact ⟨Ar.ret_i X.out.symm, rfl⟩
  · have X := Lib.hid (show Hd.lim n m = n by unfold Hd.lim; rw [if_neg h1, if_neg h2])
    go_enter Try.func104, Try.ntmps104
    go_wp2
    go_ret
    exact ⟨Ar.ret_i X.out.symm, rfl⟩
end Go.Proofs.Ytldhhhmihfcalaa

/- A reader of a number tells its number; what a reader's block leaves of a row. Condition: its greatest number fits. -/
namespace Go.Proofs.Ytldhhhmihfcalaa
open Go.RowKit
set_option linter.unusedVariables false

theorem value_s {w : World} {b : Nat} {m : Int} {s : Tk.S} (h : RdS w b m s) :
    Calls Try.prog 141 #[.pointer (some ⟨b, 0, none⟩)] w fun e w' => e = .returned (.tuple #[.int .i64 (Tk.val s).1, .int .i64 (Tk.val s).2]) ∧ w.grownBy w' none := by
  obtain ⟨⟨h1, h2, h3, h4, h5, h6, h7, h8⟩, v, f, x, r1, r2, r3, r4⟩ := h
  obtain ⟨k, n, er, bg⟩ := s
  simp only at h1 h2 h3 h4 h5 h6 h7 h8 r2 r3 r4
  by_cases k4 : k = 4
  · subst k4
    have hv := r2 (by omega)
    have he := h5 rfl
    subst hv he
    have r1' : RdC w b m v bg 1 f x := r1
    have hc1 := r1'.c1
    have hc3 := r1'.c3
    clear r1 r1' r2 r3 r4 h1 h2 h3 h4 h5 h6 h7 h8
    go_enter Try.func141, Try.ntmps141
    go_wp2
    go_ret2
    exact ⟨rfl, .refl _ _⟩
  by_cases k5 : k = 5
  · subst k5
    have hf := r4 rfl
    have he : er ≠ 0 := by have := h6 rfl; omega
    subst hf
    have r1' : RdC w b m v bg 2 f x := r1
    have X : Hid (Tk.val ⟨5, n, f, bg⟩ = (0, f)) := by show _ = _; unfold Tk.val; exact if_neg he
    have hc4 := r1'.c4
    have hc3 := r1'.c3
    clear r1 r1' r2 r3 r4 h1 h2 h3 h4 h5 h6 h7 h8 he
    go_enter Try.func141, Try.ntmps141
    go_wp2_with (go_quiet (fail))
    go_ret2
    exact ⟨(by rw [X.out]; rfl), grown_drew _ _ _⟩
  · have he := h4 (by omega)
    subst he
    have hst : Tk.st ⟨k, n, 9, bg⟩ = 0 := by unfold Tk.st; simp [k4, k5]
    rw [hst] at r1
    have hc3 := r1.c3
    clear r1 r2 r3 r4 h1 h2 h3 h4 h5 h6 h7 h8 hst
    go_enter Try.func141, Try.ntmps141
    go_wp2
    go_ret2
    exact ⟨rfl, .refl _ _⟩
theorem RdS.not_row {w : World} {b : Nat} {m : Int} {s : Tk.S} (h : RdS w b m s) {e : TypeId} (hte : 191 ≠ e) {base size k : Nat} {v : Value} {xs : List Value} (hr : w.ownsRow base e size v k xs) : some b ≠ v.ownBlock := by
  obtain ⟨_, _, f, x, h1, _⟩ := h
  have h1' : w.heap[b]? = _ := h1
  rcases hr.2 with ⟨hv, _⟩ | ⟨j, cap, cur, hv, _, hj, _⟩
  · rw [hv]; simp [Value.ownBlock]
  · rw [hv]; intro e2
    have e2 : b = j := by simpa [Value.ownBlock] using e2
    subst e2
    rw [h1'] at hj
    injection hj with hj
    injection hj with _ ht _
    exact hte ht
theorem row_keep {w w' : World} {b base size k : Nat} {e : TypeId} {v : Value} {xs : List Value} (hr : w.ownsRow base e size v k xs) (hg : w.grownBy w' (some b)) (hne : some b ≠ v.ownBlock) : w'.ownsRow base e size v k xs := hr.kept hg (.inr (Ne.symm hne))
theorem row_none {w w' : World} {base size k : Nat} {e : TypeId} {v : Value} {xs : List Value} (hr : w.ownsRow base e size v k xs) (hg : w.grownBy w' none) : w'.ownsRow base e size v k xs := by
  refine hr.kept hg ?_
  cases h : v.ownBlock with
  | none => exact .inl rfl
  | some j => exact .inr (by simp)
theorem row_below {w w' : World} {base size k : Nat} {e : TypeId} {v : Value} {xs : List Value} (hr : w.ownsRow base e size v k xs) (hb : Below w.heap.size w w') : w'.ownsRow base e size v k xs := row_none hr ⟨hb.os, hb.tape, hb.output, hb.size, fun k hk _ => hb.block k hk⟩
end Go.Proofs.Ytldhhhmihfcalaa

/- Unpack at numbers that are pixels of three samples, of one, and at those that are none. Condition: numbers fit their kinds. -/
namespace Go.Proofs.Ytldhhhmihfcalaa
open Go.RowKit
set_option linter.unusedVariables false
namespace Pq
/-- three, one, no integers in memory of the call's own -/
def Own3 (base : Nat) (w' : World) (g : Nat) (a b c : Int) : Prop :=
  base ≤ g ∧ g < w'.heap.size ∧ w'.cell? ⟨g, 0, none⟩ = some (.int .i64 a) ∧ w'.cell? ⟨g, 1, none⟩ = some (.int .i64 b) ∧ w'.cell? ⟨g, 2, none⟩ = some (.int .i64 c) ∧
    w'.frozen? ⟨g, 0, none⟩ = false ∧ w'.frozen? ⟨g, 1, none⟩ = false ∧ w'.frozen? ⟨g, 2, none⟩ = false
def Own1 (base : Nat) (w' : World) (g : Nat) (a : Int) : Prop :=
  base ≤ g ∧ g < w'.heap.size ∧ w'.cell? ⟨g, 0, none⟩ = some (.int .i64 a) ∧ w'.frozen? ⟨g, 0, none⟩ = false
theorem own3 {base : Nat} {w : World} {ad : Option Addr} {a b c : Int} (h : Own base w ad [a, b, c]) : ∃ g, ad = some ⟨g, 0, none⟩ ∧ Own3 base w g a b c := by
  rcases h with h | ⟨g, h1, h2, h3, h4, h5⟩
  · cases h
  · exact ⟨g, h1, h2, h3, h4 0 (by simp), h4 1 (by simp), h4 2 (by simp), h5 0 (by simp), h5 1 (by simp), h5 2 (by simp)⟩
theorem own1 {base : Nat} {w : World} {ad : Option Addr} {a : Int} (h : Own base w ad [a]) : ∃ g, ad = some ⟨g, 0, none⟩ ∧ Own1 base w g a := by
  rcases h with h | ⟨g, h1, h2, h3, h4, h5⟩
  · cases h
  · exact ⟨g, h1, h2, h3, h4 0 (by simp), h5 0 (by simp)⟩
theorem isU3 {p a b c : Int} (h : Px.Is3 p a b c) : Px.U p := by unfold Px.Is3 at h; unfold Px.U; omega
theorem isU1 {p a : Int} (h : Px.Is1 p a) : Px.U p := by unfold Px.Is1 at h; unfold Px.U; omega
theorem refUnpack3 (p a b c : Int) (h : Px.Is3 p a b c) (w : World) :
    Calls Try.prog 54 #[.int .u64 p] w fun e w' => ∃ g cap, e = .returned (.slice (some ⟨g, 0, none⟩) 3 cap) ∧ Own3 w.heap.size w' g a b c ∧ Below w.heap.size w w' := by
  refine (refUnpack_any p (isU3 h) w).mono fun e w' ⟨ad, cap, he, ho, hb⟩ => ?_
  rw [Px.smp3 h] at he ho
  obtain ⟨g, rfl, ho3⟩ := own3 ho
  exact ⟨g, cap, he, ho3, hb⟩
theorem refUnpack1 (p a : Int) (h : Px.Is1 p a) (w : World) :
    Calls Try.prog 54 #[.int .u64 p] w fun e w' => ∃ g cap, e = .returned (.slice (some ⟨g, 0, none⟩) 1 cap) ∧ Own1 w.heap.size w' g a ∧ Below w.heap.size w w' := by
  refine (refUnpack_any p (isU1 h) w).mono fun e w' ⟨ad, cap, he, ho, hb⟩ => ?_
  rw [Px.smp1 h] at he ho
  obtain ⟨g, rfl, ho1⟩ := own1 ho
  exact ⟨g, cap, he, ho1, hb⟩
theorem refUnpack0 (p : Int) (hU : Px.U p) (h : Px.Is0 p) (w : World) :
    Calls Try.prog 54 #[.int .u64 p] w fun e w' => ∃ ad cap, e = .returned (.slice ad 0 cap) ∧ Below w.heap.size w w' := by
  refine (refUnpack_any p hU w).mono fun e w' ⟨ad, cap, he, ho, hb⟩ => ?_
  rw [Px.smp0 h] at he
  exact ⟨ad, cap, he, hb⟩
theorem unpack3 (p a b c : Int) (h : Px.Is3 p a b c) (w : World) :
    Calls Try.prog 93 #[.int .u64 p] w fun e w' => ∃ g cap, e = .returned (.slice (some ⟨g, 0, none⟩) 3 cap) ∧ Own3 w.heap.size w' g a b c ∧ Below w.heap.size w w' := by
  refine (unpack_any p (isU3 h) w).mono fun e w' ⟨ad, cap, he, ho, hb⟩ => ?_
  rw [Px.smp3 h] at he ho
  obtain ⟨g, rfl, ho3⟩ := own3 ho
  exact ⟨g, cap, he, ho3, hb⟩
theorem unpack1 (p a : Int) (h : Px.Is1 p a) (w : World) :
    Calls Try.prog 93 #[.int .u64 p] w fun e w' => ∃ g cap, e = .returned (.slice (some ⟨g, 0, none⟩) 1 cap) ∧ Own1 w.heap.size w' g a ∧ Below w.heap.size w w' := by
  refine (unpack_any p (isU1 h) w).mono fun e w' ⟨ad, cap, he, ho, hb⟩ => ?_
  rw [Px.smp1 h] at he ho
  obtain ⟨g, rfl, ho1⟩ := own1 ho
  exact ⟨g, cap, he, ho1, hb⟩
theorem unpack0 (p : Int) (hU : Px.U p) (h : Px.Is0 p) (w : World) :
    Calls Try.prog 93 #[.int .u64 p] w fun e w' => ∃ ad cap, e = .returned (.slice ad 0 cap) ∧ Below w.heap.size w w' := by
  refine (unpack_any p hU w).mono fun e w' ⟨ad, cap, he, ho, hb⟩ => ?_
  rw [Px.smp0 h] at he
  exact ⟨ad, cap, he, hb⟩

end Pq
end Go.Proofs.Ytldhhhmihfcalaa

/- How many digits pixels have, over any memory. Condition: not too many pixels. -/
import Derived.Test.YtldhhhmihfcalaaIn
import Derived.Test.YtldhhhmihfcalaaNumB
import Derived.Test.YtldhhhmihfcalaaNumM
import Derived.Test.YtldhhhmihfcalaaQPixB
namespace Go.Proofs.Ytldhhhmihfcalaa
open Go.RowKit
set_option linter.unusedVariables false
namespace Pl
def dgL : List Int → Int
  | [] => 0
  | s :: r => Nu.places s + dgL r
def dgA : List Int → Int
  | [] => 0
  | p :: r => dgL (Pq.Px.smp p) + dgA r
theorem dgL_append (a b : List Int) : dgL (a ++ b) = dgL a + dgL b := by
  induction a with
  | nil => simp [dgL]
  | cons x r ih => simp only [List.cons_append, dgL, ih]; omega
theorem dgA_append (a b : List Int) : dgA (a ++ b) = dgA a + dgA b := by
  induction a with
  | nil => simp [dgA]
  | cons x r ih => simp only [List.cons_append, dgA, ih]; omega
theorem take_getD (l : List Int) (k : Nat) (h : k < l.length) : l.take (k + 1) = l.take k ++ [l.getD k 0] := by
  rw [List.take_succ_eq_append_getElem h, List.getD_eq_getElem?_getD, List.getElem?_eq_getElem h]; rfl
theorem dgL_succ (l : List Int) (k : Nat) (h : k < l.length) : dgL (l.take (k + 1)) = dgL (l.take k) + Nu.places (l.getD k 0) := by
  rw [take_getD l k h, dgL_append]; simp [dgL]
theorem dgA_succ (l : List Int) (k : Nat) (h : k < l.length) : dgA (l.take (k + 1)) = dgA (l.take k) + dgL (Pq.Px.smp (l.getD k 0)) := by
  rw [take_getD l k h, dgA_append]; simp [dgA]
theorem decV_len (n : Int) : ((Nu.decV n).length : Int) = Nu.places n := by
  unfold Nu.decV Nu.backV Nu.places
  rw [List.length_reverse, List.length_append, List.length_map]
  split <;> simp <;> omega
theorem places_in {n : Int} (hn : Nu.I n) : 0 ≤ Nu.places n ∧ Nu.places n ≤ 66 := by
  have := Nu.decV_len hn
  rw [← decV_len]; omega
theorem smp_in {p : Int} (hU : Pq.Px.U p) : (Pq.Px.smp p).length ≤ 3 ∧ ∀ s ∈ Pq.Px.smp p, 0 ≤ s ∧ s ≤ 65535 := by
  rcases Pq.Px.tri hU with ⟨a, b, c, h⟩ | ⟨a, h⟩ | h
  · rw [Pq.Px.smp3 h]
    obtain ⟨_, h⟩ := h
    refine ⟨by simp, fun s hs => ?_⟩
    simp only [List.mem_cons, List.not_mem_nil, or_false] at hs
    omega
  · rw [Pq.Px.smp1 h]
    obtain ⟨_, h⟩ := h
    refine ⟨by simp, fun s hs => ?_⟩
    simp only [List.mem_cons, List.not_mem_nil, or_false] at hs
    omega
  · rw [Pq.Px.smp0 h]
    exact ⟨by simp, fun s hs => by cases hs⟩
theorem dgL_in : ∀ {l : List Int}, (∀ s ∈ l, Nu.I s) → 0 ≤ dgL l ∧ dgL l ≤ 66 * l.length
  | [], _ => by simp [dgL]
  | s :: r, h => by
    have h1 := places_in (h s (List.mem_cons_self ..))
    have h2 := dgL_in (l := r) fun x hx => h x (List.mem_cons_of_mem _ hx)
    simp only [dgL, List.length_cons]; omega
theorem smp_I {p : Int} (hU : Pq.Px.U p) : ∀ s ∈ Pq.Px.smp p, Nu.I s := fun s hs => by have := (smp_in hU).2 s hs; unfold Nu.I; omega
theorem dgA_in : ∀ {l : List Int}, (∀ p ∈ l, Pq.Px.U p) → 0 ≤ dgA l ∧ dgA l ≤ 198 * l.length
  | [], _ => by simp [dgA]
  | p :: r, h => by
    have hU := h p (List.mem_cons_self ..)
    have h1 := dgL_in (smp_I hU)
    have h3 := (smp_in hU).1
    have h2 := dgA_in (l := r) fun x hx => h x (List.mem_cons_of_mem _ hx)
    simp only [dgA, List.length_cons]; omega
end Pl
theorem getD_mem {l : List Int} {k : Nat} (h : k < l.length) : l.getD k 0 ∈ l := by
  rw [List.getD_eq_getElem?_getD, List.getElem?_eq_getElem h]; exact List.getElem_mem h
set_option maxHeartbeats 4000000 in
theorem plDigits_any (a : Option Addr) (n cap : Nat) (l : List Int) (hn : n ≤ 1000) (hl : ∀ p ∈ l, Pq.Px.U p) (w : World) (hs : SlK .u64 w a n l) :
    Calls Try.prog 55 #[.slice a n cap] w fun e w' => e = .returned (.int .i64 (Pl.dgA l)) ∧ Below w.heap.size w w' := by
  have HS := Lib.hid hs
  have HU := Lib.hid hl
  have HL := Lib.hid hs.1
  clear hs hl
  go_enter Try.func55, Try.ntmps55
  go_wp2_with fail
  go_loopw [3, 10] (fun u3 u10 wr => ∃ k : Nat, k ≤ n ∧ u10 = .int .i64 k ∧ u3 = .int .i64 (Pl.dgA (l.take k)) ∧ Below w.heap.size w wr) (fun _ u10 _ => n - (intOf u10).toNat)
  case atStart => exact ⟨0, Nat.zero_le _, rfl, rfl, .refl _ _⟩
  case round =>
    obtain ⟨k, hk, rfl, rfl, hB⟩ := hrel
    have HB := Lib.hid hB
    clear hB
    by_cases hlt : k < n
    · obtain ⟨p, hp⟩ : ∃ p, l.getD k 0 = p := ⟨_, rfl⟩
      have hkl : k < l.length := by rw [HL.out]; exact hlt
      have hU : Pq.Px.U p := by rw [← hp]; exact HU.out _ (getD_mem hkl)
      have HZ := Lib.hid (Pl.dgA_succ l k hkl)
      have hdA := Pl.dgA_in (l := l.take k) fun q hq => HU.out q (List.mem_of_mem_take hq)
      have hLT : (l.take k).length ≤ 1000 := by rw [List.length_take]; omega
      have hsi := Pl.smp_in hU
      have HI := Lib.hid (Pl.smp_I hU)
      have HUP := Lib.hid (Pq.unpack_any p hU)
      obtain ⟨zs, hzs⟩ : ∃ zs, Pq.Px.smp p = zs := ⟨_, rfl⟩
      obtain ⟨A, hA⟩ : ∃ A, Pl.dgA (l.take k) = A := ⟨_, rfl⟩
      rw [hp, hzs, hA] at HZ
      rw [hzs] at HI HUP hsi
      rw [hA] at hdA ⊢
      obtain ⟨m, hm⟩ : ∃ m, zs.length = m := ⟨_, rfl⟩
      have HML := Lib.hid hm
      have hm3 : m ≤ 3 := by have := hsi.1; omega
      have hA0 : 0 ≤ A := hdA.1
      have hA1 : A ≤ 198000 := by omega
      obtain ⟨blk, off, rfl, hcell⟩ : ∃ blk off, a = some ⟨blk, off, none⟩ ∧ wr.cell? ⟨blk, off + k, none⟩ = some (.int .u64 p) := by
        rcases HS.out.2 with h | ⟨blk, off, rfl, hc⟩
        · omega
        · exact ⟨blk, off, rfl, cell_later HB.out (by rw [hc k hlt, hp])⟩
      clear hp hU hdA hLT hsi hzs hA hm hkl
      go_wp2_with fail
      refine (HUP.out _).mono ?_
      rintro e w2 ⟨ad, cp, rfl, hO, hb2⟩
      rw [HML.out]
      have HO := Lib.hid hO.sl
      have HB2 := Lib.hid hb2
      clear hO hb2 hcell
      go_wp2_with fail
      go_loopw [3, 17] (fun u3 u17 wi => ∃ j : Nat, j ≤ m ∧ u17 = .int .i64 j ∧ u3 = .int .i64 (A + Pl.dgL (zs.take j)) ∧ Below w2.heap.size w2 wi) (fun _ u17 _ => m - (intOf u17).toNat)
      case atStart => exact ⟨0, Nat.zero_le _, rfl, by simp [Pl.dgL], .refl _ _⟩
      case round =>
        obtain ⟨j, hj, rfl, rfl, hC⟩ := hrel
        have HC := Lib.hid hC
        clear hC
        by_cases hjt : j < m
        · obtain ⟨s, hs⟩ : ∃ s, zs.getD j 0 = s := ⟨_, rfl⟩
          have hjl : j < zs.length := by rw [HML.out]; exact hjt
          have hsI : Nu.I s := by rw [← hs]; exact HI.out _ (getD_mem hjl)
          have HY := Lib.hid (Pl.dgL_succ zs j hjl)
          have hdL := Pl.dgL_in (l := zs.take j) fun q hq => HI.out q (List.mem_of_mem_take hq)
          have hTL : (zs.take j).length ≤ 3 := by rw [List.length_take]; omega
          have hpl := Pl.places_in hsI
          have HPL := Lib.hid (places_any s hsI)
          obtain ⟨B, hB⟩ : ∃ B, Pl.dgL (zs.take j) = B := ⟨_, rfl⟩
          obtain ⟨q, hq⟩ : ∃ q, Nu.places s = q := ⟨_, rfl⟩
          rw [hs, hB, hq] at HY
          rw [hB] at hdL ⊢
          rw [hq] at HPL hpl
          obtain ⟨b2, o2, rfl, hcell⟩ : ∃ blk off, ad = some ⟨blk, off, none⟩ ∧ wr.cell? ⟨blk, off + j, none⟩ = some (.int .i64 s) := by
            rcases HO.out.2 with h | ⟨blk, off, rfl, hc⟩
            · rw [HML.out] at h; omega
            · exact ⟨blk, off, rfl, cell_later HC.out (by rw [hc j (by rw [HML.out]; exact hjt), hs])⟩
          have q0 : 0 ≤ A + B := by omega
          have q1 : A + B ≤ 200000 := by omega
          have q2 : 0 ≤ q := hpl.1
          have q3 : q ≤ 66 := hpl.2
          obtain ⟨X, hX⟩ : ∃ X, A + B = X := ⟨_, rfl⟩
          rw [hX] at q0 q1 ⊢
          have HX := Lib.hid hX
          have g1 : wrap64 (X + q) = X + q := by rw [IntWalk.wrap64_in] <;> omega
          clear hs hsI hjl hdL hTL hpl hB hq hX
          go_wp2_with (go_at_call 94; refine (HPL.out _).mono ?_; rintro e w3 ⟨rfl, hb3⟩; have HB3 := Lib.hid hb3; clear hb3)
          go_roundw
          case rel => exact ⟨j + 1, by omega, by go_num, by rw [HY.out]; have := HX.out; rw [show A + (B + q) = X + q by omega], HC.out.trans (HB3.out.mono HC.out.size)⟩
          case measure => simp [intOf]; omega
        · have hje : j = m := by omega
          have HF : Hid (zs.take j = zs) := Lib.hid (List.take_of_length_le (by rw [HML.out]; omega))
          clear hje
          go_wp2_with fail
          go_roundw
          case rel => exact ⟨k + 1, by omega, by go_num, by rw [HZ.out, HF.out], HB.out.trans ((HB2.out.trans (HC.out.mono HB2.out.size)).mono HB.out.size)⟩
          case measure => simp [intOf]; omega
    · have HF : Hid (l.take k = l) := Lib.hid (List.take_of_length_le (by rw [HL.out]; omega))
      rw [HF.out]
      go_wp2
      go_ret
      exact ⟨rfl, HB.out⟩
end Go.Proofs.Ytldhhhmihfcalaa

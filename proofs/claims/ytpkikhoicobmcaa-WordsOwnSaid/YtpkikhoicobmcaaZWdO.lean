/- The document's example of layer 14; begin, ready for the laws. No condition. -/
import Derived.Test.YtpkikhoicobmcaaZWdN
import Derived.Test.YtpkikhoicobmcaaZWdH
import Derived.Test.YtpkikhoicobmcaaZgAB
namespace Go.Proofs.Ytpkikhoicobmcaa
open Go.RowKit
set_option linter.unusedVariables false
open Tr Au Wd
/-- what begin hands back, of a set known -/
def BegU (S : LL) (w : World) (e : Ending) (w' : World) : Prop := ∃ B sb tb nb nc mb rv ra rc vs, e = .returned (.tuple #[.pointer (some ⟨sb, 0, none⟩), .slice ra S.length rc]) ∧ WsA w' B sb tb nb nc mb rv (.pointer none) S ∧ RvS (Fw sb tb nb mb (pathsOf S).length rv) w' ra S.length vs S ∧ w.heap.size ≤ B ∧ Below w.heap.size w w'
theorem begin14_use {w : World} {a : Option Addr} {len cap : Nat} {A : Nat → Option Addr} {N C : Nat → Nat} {Z : Nat → List Int} (hat : RowsAt w a len A N C Z) (hlen : len ≤ 9223372036854775807) (raw : Bool) :
    ∃ S, S = setOf (ownV raw N Z (min len 8)) ∧ Ok S ∧ S.length ≤ 8 ∧ (∀ r ∈ S, r.length ≤ 5) ∧ Calls Try.prog 9 #[.slice a len cap, .bool raw] w (BegU S w) := by
  have hb := begin14_any (cap := cap) hat hlen raw
  have hos := ownV_short raw N Z (min len 8)
  have hol := ownV_len raw N Z (min len 8)
  obtain ⟨own, hown⟩ : ∃ own, ownV raw N Z (min len 8) = own := ⟨_, rfl⟩
  rw [hown] at hb hos hol ⊢
  refine ⟨_, rfl, setOf_ok own, by have := setOf_len own; omega, setOf_short hos, hb.mono ?_⟩
  rintro e w' ⟨B, sb, tb, nb, nc, mb, rv, ra, rc, vs, rfl, h1, h2, h3, h4⟩
  exact ⟨B, sb, tb, nb, nc, mb, rv, ra, rc, vs, rfl, ⟨h1, .inl rfl⟩, h2, h3, h4⟩
theorem ok_pos {S : LL} (h : Ok S) : ∀ r ∈ S, 0 < r.length := fun r hr => List.length_pos_iff.2 fun e => h.ne (e ▸ hr)
theorem lit_sl {k : IntKind} {w : World} {t : TypeId} {l : List Int} {n : Nat} (hl : l.length = n) : SlK k (w.alloc (.cells (l.map (Value.int k)).toArray t)) (some ⟨w.heap.size, 0, none⟩) n l := by
  have h1 := World.alloc_heap_new w (.cells (l.map (Value.int k)).toArray t)
  obtain ⟨W1, hW1⟩ : ∃ W1, w.alloc (.cells (l.map (Value.int k)).toArray t) = W1 := ⟨_, rfl⟩
  rw [hW1] at h1 ⊢
  refine ⟨hl, .inr ⟨_, _, rfl, fun i hi => ?_⟩⟩
  rw [Nat.zero_add]
  simp [World.cell?, h1, List.getD_eq_getElem?_getD, List.getElem?_eq_getElem (show i < l.length by omega)]
theorem live_rows14 (w : World) (t1 t2 t3 : TypeId) : RowsAt (((w.alloc (.cells #[.int .u64 1, .int .u64 2] t1)).alloc (.cells #[.int .u64 2] t2)).alloc (.cells #[.slice (some ⟨w.heap.size, 0, none⟩) 2 2, .slice (some ⟨(w.alloc (.cells #[.int .u64 1, .int .u64 2] t1)).heap.size, 0, none⟩) 1 1] t3))
    (some ⟨((w.alloc (.cells #[.int .u64 1, .int .u64 2] t1)).alloc (.cells #[.int .u64 2] t2)).heap.size, 0, none⟩) 2 (fun i => if i = 0 then some ⟨w.heap.size, 0, none⟩ else some ⟨(w.alloc (.cells #[.int .u64 1, .int .u64 2] t1)).heap.size, 0, none⟩) (fun i => if i = 0 then 2 else 1) (fun i => if i = 0 then 2 else 1) (fun i => if i = 0 then [1, 2] else [2]) := by
  have e1 := World.alloc_heap_new w (.cells #[.int .u64 1, .int .u64 2] t1)
  have b1 := box1T w (.cells #[.int .u64 1, .int .u64 2] t1)
  obtain ⟨w1, h1⟩ : ∃ w1, w.alloc (.cells #[.int .u64 1, .int .u64 2] t1) = w1 := ⟨_, rfl⟩
  rw [h1] at e1 b1 ⊢
  have e2 := World.alloc_heap_new w1 (.cells #[.int .u64 2] t2)
  have b2 := box1T w1 (.cells #[.int .u64 2] t2)
  obtain ⟨w2, h2⟩ : ∃ w2, w1.alloc (.cells #[.int .u64 2] t2) = w2 := ⟨_, rfl⟩
  rw [h2] at e2 b2 ⊢
  have e3 := World.alloc_heap_new w2 (.cells #[.slice (some ⟨w.heap.size, 0, none⟩) 2 2, .slice (some ⟨w1.heap.size, 0, none⟩) 1 1] t3)
  have b3 := box1T w2 (.cells #[.slice (some ⟨w.heap.size, 0, none⟩) 2 2, .slice (some ⟨w1.heap.size, 0, none⟩) 1 1] t3)
  obtain ⟨w3, h3⟩ : ∃ w3, w2.alloc (.cells #[.slice (some ⟨w.heap.size, 0, none⟩) 2 2, .slice (some ⟨w1.heap.size, 0, none⟩) 1 1] t3) = w3 := ⟨_, rfl⟩
  rw [h3] at e3 b3 ⊢
  have l1 : w.heap.size < w1.heap.size := (Array.getElem?_eq_some_iff.1 e1).1
  have l2 : w1.heap.size < w2.heap.size := (Array.getElem?_eq_some_iff.1 e2).1
  have k1 := (b3.block w.heap.size (by omega)).trans ((b2.block w.heap.size l1).trans e1)
  have k2 := (b3.block w1.heap.size l2).trans e2
  intro r hr
  have hr2 : r = 0 ∨ r = 1 := by omega
  rcases hr2 with rfl | rfl
  · refine ⟨⟨w2.heap.size, 0, rfl, by simp [World.cell?, e3]⟩, .inr ⟨⟨w.heap.size, 0, none⟩, rfl, by decide, by decide, rfl, fun i hi => ?_, by decide⟩⟩
    have hi3 : i = 0 ∨ i = 1 := by simp at hi; omega
    rcases hi3 with rfl | rfl <;> simp [World.cell?, Addr.add, k1]
  · refine ⟨⟨w2.heap.size, 0, rfl, by simp [World.cell?, e3]⟩, .inr ⟨⟨w1.heap.size, 0, none⟩, rfl, by decide, by decide, rfl, fun i hi => ?_, by decide⟩⟩
    have hi3 : i = 0 := by simp at hi; omega
    subst hi3
    simp [World.cell?, Addr.add, k2]
theorem live_set : setOf (ownV false (fun i => if i = 0 then 2 else 1) (fun i => if i = 0 then [1, 2] else [2]) (min 2 8)) = [[1, 2], [2]] := by kernel_rfl
theorem live_f0 : fin [[1, 2], [2]] (([1, 2, 2] : List Int).take (0 + 1)) = [] := by kernel_rfl
theorem live_f1 : fin [[1, 2], [2]] (([1, 2, 2] : List Int).take (1 + 1)) = [0, 1] := by kernel_rfl
theorem live_f2 : fin [[1, 2], [2]] (([1, 2, 2] : List Int).take (2 + 1)) = [1] := by kernel_rfl
theorem begin_live14 (w : World) (t1 t2 t3 : TypeId) : ∃ S, S = [[1, 2], [2]] ∧ Ok S ∧
    Calls Try.prog 9 #[.slice (some ⟨w.heap.size + 1 + 1, 0, none⟩) 2 2, .bool false]
      (((w.alloc (.cells #[.int .u64 1, .int .u64 2] t1)).alloc (.cells #[.int .u64 2] t2)).alloc (.cells #[.slice (some ⟨w.heap.size, 0, none⟩) 2 2, .slice (some ⟨w.heap.size + 1, 0, none⟩) 1 1] t3))
      (BegU S (((w.alloc (.cells #[.int .u64 1, .int .u64 2] t1)).alloc (.cells #[.int .u64 2] t2)).alloc (.cells #[.slice (some ⟨w.heap.size, 0, none⟩) 2 2, .slice (some ⟨w.heap.size + 1, 0, none⟩) 1 1] t3))) := by
  obtain ⟨S, hS, hok, _, _, hB⟩ := begin14_use (cap := 2) (live_rows14 w t1 t2 t3) (by decide) false
  rw [live_set] at hS
  have e2 : ((w.alloc (.cells #[.int .u64 1, .int .u64 2] t1)).alloc (.cells #[.int .u64 2] t2)).heap.size = w.heap.size + 1 + 1 := by simp
  have e1 : (w.alloc (.cells #[.int .u64 1, .int .u64 2] t1)).heap.size = w.heap.size + 1 := by simp
  rw [e2, e1] at hB
  exact ⟨S, hS, hok, hB⟩
set_option maxRecDepth 100000 in
set_option maxHeartbeats 2000000 in
theorem lives14_any (w : World) : Calls Try.prog 16 #[] w fun e w' => e = .returned (.bool true) ∧ Below w.heap.size w w' := by
  obtain ⟨S, hS, hok, hB⟩ := begin_live14 w 51 51 27
  have HBG := Lib.hid hB
  have HSE := Lib.hid hS
  have HOK := Lib.hid hok
  clear hB hS hok
  unfold BegU at HBG
  have HSZ : Hid ((((w.alloc (.cells #[.int .u64 1, .int .u64 2] 51)).alloc (.cells #[.int .u64 2] 51)).alloc (.cells #[.slice (some ⟨w.heap.size, 0, none⟩) 2 2, .slice (some ⟨w.heap.size + 1, 0, none⟩) 1 1] 27)).heap.size = w.heap.size + 1 + 1 + 1) := Lib.hid (by simp)
  go_enter Try.func16, Try.ntmps16
  go_upto_region 4 with (go_at_call 9; (with_reducible refine HBG.out.mono ?_); rintro e w1 ⟨B, sb, tb, nb, nc, mb, rv, ra, rc, vs, rfl, hX, hrv, hlo, hb⟩; have HX := Lib.hid hX; have HB := Lib.hid hb; have HLO := Lib.hid hlo; clear hX hrv hlo hb)
  obtain rfl := HSE.out
  have hb3 := box1T w1 (.cells #[.int .u64 1, .int .u64 2, .int .u64 2] 51)
  have hsl : ∀ w', Sep (fun g => g = sb) (w1.alloc (.cells #[.int .u64 1, .int .u64 2, .int .u64 2] 51)) w' → SlK .u64 w' (some ⟨w1.heap.size, 0, none⟩) 3 [1, 2, 2] := fun w' hs => by
    obtain ⟨h1, h2⟩ := lit_sl (k := .u64) (w := w1) (t := 51) (l := [1, 2, 2]) (n := 3) rfl
    refine ⟨h1, ?_⟩
    rcases h2 with h2 | ⟨b, o, e, hc⟩
    · omega
    · refine .inr ⟨b, o, e, fun i hi => hs.cell (fun e2 => ?_) (hc i hi)⟩
      have h9 := (HX.out.x.lt (.inr (.inl rfl))).2
      injection e with e; injection e with e _ _
      omega
  have HSC := Lib.hid (wScan_any (c := 3) (HX.out.later hb3) HOK.out (by decide) (by decide) hsl (by decide))
  unfold ScanR at HSC
  have HB3 := Lib.hid hb3
  have HSB := Lib.hid (show w.heap.size ≤ sb by have h1 := HX.out.x.low; have h2 := HLO.out; have h3 := HSZ.out; omega)
  clear hb3 hsl
  go_upto_region 7 with (go_at_call 18; refine HSC.out.mono ?_; rintro e w2 ⟨gl, av', rfl, hsa, hwa, hsp⟩; have HSA := Lib.hid hsa; have HSP := Lib.hid hsp; clear hsa hwa hsp)
  obtain ⟨a0, c0, k0, _⟩ := HSA.out w2 (Sep.refl _ _) 0 (by omega)
  obtain ⟨a1, c1, k1, s1⟩ := HSA.out w2 (Sep.refl _ _) 1 (by omega)
  obtain ⟨a2, c2, k2, s2⟩ := HSA.out w2 (Sep.refl _ _) 2 (by omega)
  rw [live_f0] at k0
  rw [live_f1] at k1 s1
  rw [live_f2] at k2 s2
  have hl1 : ([0, 1] : List Int).length = 2 := rfl
  have hl2 : ([1] : List Int).length = 1 := rfl
  rw [List.length_nil] at k0
  rw [hl1] at k1 s1
  rw [hl2] at k2 s2
  clear hl1 hl2
  have HC1 := Lib.hid (Sm.same_self a1 (some ⟨w2.heap.size, 0, none⟩) 2 2 c1 2 [0, 1] (w2.alloc (.cells #[.int .i64 0, .int .i64 1] 3)) (by decide) (s1.below (box1T w2 _)) (lit_sl (k := .i64) (w := w2) (t := 3) (l := [0, 1]) (n := 2) rfl))
  have HC2 := Lib.hid (fun W (hb : Below w2.heap.size w2 W) => Sm.same_self a2 (some ⟨W.heap.size, 0, none⟩) 1 1 c2 1 [1] (W.alloc (.cells #[.int .i64 1] 3)) (by decide) (s2.below (bel_step hb (box1T W _))) (lit_sl (k := .i64) (w := W) (t := 3) (l := [1]) (n := 1) rfl))
  have HB4 := Lib.hid (box1T w2 (.cells #[.int .i64 0, .int .i64 1] 3))
  clear s1 s2
  go_wp2_with fail
  refine HC1.out.mono ?_
  rintro e w5 ⟨rfl, hb5⟩
  have HB5 := Lib.hid (bel_step HB4.out hb5)
  have k25 := cell_later HB5.out k2
  clear hb5 k0 k1 k2
  go_wp2_with fail
  refine (HC2.out _ HB5.out).mono ?_
  rintro e w6 ⟨rfl, hb6⟩
  have HB6 := Lib.hid (bel_step HB5.out (bel_step (box1T w5 _) hb6))
  clear hb6 k25
  go_wp2_with fail
  go_ret
  refine ⟨rfl, ?_⟩
  have h1 : Below w.heap.size w w1 := bel_step (bel_step (bel_step (box1T _ _) (box1T _ _)) (by have := box1T ((w.alloc (.cells #[.int .u64 1, .int .u64 2] 51)).alloc (.cells #[.int .u64 2] 51)) (.cells #[.slice (some ⟨w.heap.size, 0, none⟩) 2 2, .slice (some ⟨w.heap.size + 1, 0, none⟩) 1 1] 27); exact this)) HB.out
  have h2 := bel_step h1 HB3.out
  have h3 : Below w.heap.size w w2 := h2.trans (HSP.out.below h2.size fun k hk e => by have := HSB.out; omega)
  exact bel_step h3 HB6.out
end Go.Proofs.Ytpkikhoicobmcaa

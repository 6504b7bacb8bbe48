/- One template more, or why not: dict's Add, over any memory. Condition: a dictionary that may be; at most nine turns; the numbers lie in memory. -/
import Derived.Test.YtmlinoanpcbflaaZgAF
namespace Go.Proofs.Ytmlinoanpcbflaa
open Go.RowKit
set_option linter.unusedVariables false
open Dc
namespace Dc
def addE (ts : List Tp) (x : Im) (l : List Int) : Int := if risV l = [] ∨ mayB x = false then 1 else if fitsB x (risV l) = false then 4 else if ts.length = 64 ∨ 65536 < x.2.2.2.2.length ∨ 65536 < area (imgs (ts ++ [(x, risV l)])) then 8 else 0
def addN (ts : List Tp) (x : Im) (l : List Int) : Int := if addE ts x l = 0 then (ts.length : Int) else -1
def addT (ts : List Tp) (x : Im) (l : List Int) : List Tp := if addE ts x l = 0 then ts ++ [(x, risV l)] else ts
/-- what Add hands back, and what it leaves -/
def AddR (w : World) (F : Nat → Prop) (sb : Nat) (ts : List Tp) (x : Im) (l : List Int) (e : Ending) (w' : World) : Prop :=
  e = .returned (.tuple #[.int .i64 (addN ts x l), .int .i64 (addE ts x l)]) ∧ ∃ F', DctP w' F' sb (addT ts x l) ∧ Sep F w w' ∧ ∀ g, F' g → F g ∨ w.heap.size ≤ g
theorem addR_no {w w' : World} {F : Nat → Prop} {sb : Nat} {ts : List Tp} {x : Im} {l : List Int} (h : DctP w F sb ts) (hb : Below w.heap.size w w') {e : Int} (he : addE ts x l = e) (h0 : e ≠ 0) : AddR w F sb ts x l (.returned (.tuple #[.int .i64 (-1), .int .i64 e])) w' := by
  have h1 : addN ts x l = -1 := by unfold addN; rw [he, if_neg h0]
  have h2 : addT ts x l = ts := by unfold addT; rw [he, if_neg h0]
  refine ⟨by rw [h1, he], F, by rw [h2]; exact h.later hb, ⟨hb.os, hb.tape, hb.output, hb.size, fun k hk _ => hb.block k hk⟩, fun g hg => .inl hg⟩
theorem ris_turn {l : List Int} {t : Int} (h : t ∈ risV l) : Tu.isT t = true := by
  unfold risV at h
  split at h
  · next h1 => exact h1.1 t (List.mem_mergeSort.1 h)
  · cases h
theorem ris_len (l : List Int) : (risV l).length ≤ l.length := by
  unfold risV; split
  · rw [List.length_mergeSort]; exact Nat.le_refl _
  · exact Nat.zero_le _
end Dc
set_option maxRecDepth 100000 in
set_option maxHeartbeats 16000000 in
theorem dAdd_any {w : World} {F : Nat → Prop} {sb : Nat} {ts : List Tp} (h : DctP w F sb ts) (hd : OkD ts) (x : Im) (a : Option Addr) (c : Nat) (hU : ∀ p ∈ x.2.2.2.2, Pq.Px.U p) (hc : x.2.2.2.2.length ≤ c) (hc2 : c ≤ 9223372036854775807) (hs : SlK .u64 w a x.2.2.2.2.length x.2.2.2.2) (A : Option Addr) (cap : Nat) (l : List Int) (hlen : l.length ≤ 9) (hT : SlK .i64 w A l.length l) (ha : ∀ b o, A = some ⟨b, o, none⟩ → b < w.heap.size) (hFa : ∀ b o, a = some ⟨b, o, none⟩ → ¬ F b) :
    Calls Try.prog 8 #[.pointer (some ⟨sb, 0, none⟩), imV x (.slice a x.2.2.2.2.length c), .slice A l.length cap] w (AddR w F sb ts x l) := by
  have HH := Lib.hid h
  obtain ⟨tv, vv, mb, tl, vl, hX⟩ := h
  have HD := Lib.hid hd
  have E1 := Ib.new w 36 x.1 x.2.1 (x.2.2.1 : Nat) (x.2.2.2.1 : Nat) (.slice a x.2.2.2.2.length c)
  have B1 := dc_box w (.cells #[.int .i64 x.1, .int .i64 x.2.1, .int .i64 (x.2.2.1 : Nat), .int .i64 (x.2.2.2.1 : Nat), .slice a x.2.2.2.2.length c] 36)
  have hRS := Lib.hid (rising_any A l.length cap l (by omega) _ (hT.below B1) (fun b o e => Nat.lt_of_lt_of_le (ha b o e) B1.size))
  obtain ⟨W1, hW1⟩ : ∃ W1, w.alloc (.cells #[.int .i64 x.1, .int .i64 x.2.1, .int .i64 (x.2.2.1 : Nat), .int .i64 (x.2.2.2.1 : Nat), .slice a x.2.2.2.2.length c] 36) = W1 := ⟨_, rfl⟩
  rw [hW1] at E1 B1 hRS
  have hnx : x.2.2.2.2.length ≤ 9223372036854775807 := by omega
  have HMAY := Lib.hid (fun (W : World) (hb : Below w.heap.size w W) => imMay_any x.1 x.2.1 (x.2.2.1 : Nat) (x.2.2.2.1 : Nat) a x.2.2.2.2.length c x.2.2.2.2 hnx hU W (hs.below hb))
  have HFA := Lib.hid hFa
  clear hFa
  have HS := Lib.hid hs
  have HX := Lib.hid hX
  have HE1 := Lib.hid E1
  have HB1 := Lib.hid B1
  have HW1 := Lib.hid hW1
  have HC1 := Lib.hid hc
  have HC2 := Lib.hid hc2
  have HLN := Lib.hid hlen
  have hrl := ris_len l
  have HRT : Hid (∀ t ∈ risV l, Tu.isT t = true) := Lib.hid fun t ht => ris_turn ht
  have HE : Hid (∀ e, addE ts x l = e → addE ts x l = e) := Lib.hid fun _ h => h
  have HAE : Hid (addE ts x l = if risV l = [] ∨ mayB x = false then 1 else if fitsB x (risV l) = false then 4 else if ts.length = 64 ∨ 65536 < x.2.2.2.2.length ∨ 65536 < area (imgs (ts ++ [(x, risV l)])) then 8 else 0) := Lib.hid rfl
  obtain ⟨r, hr⟩ : ∃ r, risV l = r := ⟨_, rfl⟩
  rw [hr] at hRS hrl HRT HAE
  have HRV := Lib.hid hr
  obtain ⟨m, hm⟩ : ∃ m, r.length = m := ⟨_, rfl⟩
  have HM := Lib.hid hm
  rw [hm] at hRS hrl
  have hm9 : m ≤ 9 := by omega
  obtain ⟨ll, hll⟩ : ∃ ll, l.length = ll := ⟨_, rfl⟩
  rw [hll] at hRS
  rw [hll]
  clear hX hd E1 B1 hW1 hs hU hc hc2 hlen hT ha hr hm hrl hll hnx HE
  unfold imV agI
  go_enter Try.func8, Try.ntmps8
  go_upto_region 1 with fail
  rw [HW1.out]
  go_upto_region 2 with (go_at_call 18; refine hRS.out.mono ?_; rintro e w2 ⟨rv, rfl, hrow, hb⟩; have HROW := Lib.hid hrow; have HB2 := Lib.hid hb; obtain ⟨ra, rc, rfl⟩ := ownsRow_val hrow; clear hrow hb)
  have HBw := Lib.hid (bel_step HB1.out HB2.out)
  have HE2 := Lib.hid (HE1.out.later HB2.out)
  have hM := HMAY.out w2 HBw.out
  unfold agI at hM
  rw [show Im.mayV x.1 x.2.1 (x.2.2.1 : Nat) (x.2.2.2.1 : Nat) x.2.2.2.2.length x.2.2.2.2 = mayB x from rfl] at hM
  have HMA := Lib.hid hM
  obtain ⟨d0, d1, d2, d3, d4⟩ := HE2.out.cells
  clear hM
  by_cases h0 : m = 0
  · -- no turns
    subst h0
    have he : addE ts x l = 1 := by
      rw [HAE.out, if_pos (.inl (List.eq_nil_of_length_eq_zero HM.out))]
    have HAA := Lib.hid he
    clear he
    go_wp2
    go_ret2
    exact addR_no HH.out HBw.out HAA.out (by omega)
  have hm0 : ((m : Int) == 0) = false := by rw [beq_eq_false_iff_ne]; omega
  cases hmay : mayB x with
  | false =>
    rw [hmay] at HMA
    have he : addE ts x l = 1 := by rw [HAE.out, if_pos (.inr hmay)]
    have HAA := Lib.hid he
    clear he
    go_wp2_with (go_at_call 19; refine HMA.out.mono ?_; rintro e w3 ⟨rfl, hb3⟩; have HB3 := Lib.hid (bel_step HBw.out hb3); clear hb3)
    go_ret2
    exact addR_no HH.out HB3.out HAA.out (by omega)
  | true =>
    rw [hmay] at HMA
    go_upto_region 4 with (go_at_call 19; refine HMA.out.mono ?_; rintro e w3 ⟨rfl, hb3⟩; have HB3 := Lib.hid (bel_step HBw.out hb3); have HR3 := Lib.hid (ownsRow_later HROW.out hb3); have HE3 := Lib.hid (HE2.out.later hb3); clear hb3)
    have HOK := Lib.hid (may_ok' hmay)
    have HMAYT := Lib.hid hmay
    have hne1 : ¬ (r = [] ∨ mayB x = false) := by
      rintro (e | e)
      · have := HM.out; rw [e] at this; simp at this; omega
      · rw [hmay] at e; cases e
    have hae := HAE.out
    rw [if_neg hne1] at hae
    have HAE2 := Lib.hid hae
    obtain ⟨e0, e1, e2, e3, e4⟩ := HE3.out.cells
    have HFI := Lib.hid (dfits_any x a x.2.2.2.2.length c ra m rc r (by omega) HRT.out w3 (Dc.row_slk HR3.out))
    unfold agI at HFI
    clear hae hne1 hmay d0 d1 d2 d3 d4
    cases hfit : fitsB x r with
    | false =>
      rw [hfit] at HFI
      have HAA : Hid (addE ts x l = 4) := Lib.hid (by rw [HAE2.out, if_pos hfit])
      clear hfit
      go_wp2_with (go_at_call 20; refine HFI.out.mono ?_; rintro e w4 ⟨rfl, hb4⟩; have HB4 := Lib.hid (bel_step HB3.out hb4); clear hb4)
      go_ret2
      exact addR_no HH.out HB4.out HAA.out (by omega)
    | true =>
      rw [hfit] at HFI
      have hae := HAE2.out
      rw [if_neg (by rw [hfit]; exact Bool.noConfusion)] at hae
      have HAE3 := Lib.hid hae
      have HFT := Lib.hid hfit
      clear hfit hae
      go_upto_region 6 with (go_at_call 20; refine HFI.out.mono ?_; rintro e w4 ⟨rfl, hb4⟩; have HB4 := Lib.hid (bel_step HB3.out hb4); have HR4 := Lib.hid (ownsRow_later HR3.out hb4); have HE4 := Lib.hid (HE3.out.later hb4); have HX4 := Lib.hid (HX.out.later HB4.out); obtain ⟨b0, b1, b2⟩ := HX4.out.cells; obtain ⟨g0, g1, g2, g3, g4⟩ := HE4.out.cells; clear hb4)
      clear e0 e1 e2 e3 e4
      obtain ⟨ta, tc, etv⟩ := ownsRow_val HX4.out.tpl.row
      subst etv
      rw [HX.out.tlen] at b0
      obtain ⟨nt, hnt⟩ : ∃ nt, ts.length = nt := ⟨_, rfl⟩
      have HNT := Lib.hid hnt
      rw [hnt] at b0
      have hnt9 : nt ≤ 64 := by have := HD.out.few; omega
      obtain ⟨n, hn⟩ : ∃ n, x.2.2.2.2.length = n := ⟨_, rfl⟩
      have HN := Lib.hid hn
      rw [hn] at g4
      clear hnt
      by_cases h64 : nt = 64
      · subst h64
        have HAA : Hid (addE ts x l = 8) := Lib.hid (by rw [HAE3.out, if_pos (.inl HNT.out)])
        clear hn
        go_wp2
        go_ret2
        exact addR_no HH.out HB4.out HAA.out (by omega)
      have h64b : ((nt : Int) == 64) = false := by rw [beq_eq_false_iff_ne]; omega
      by_cases hbig : 65536 < n
      · have hbI : (n : Int) > 65536 := by omega
        have HAA : Hid (addE ts x l = 8) := Lib.hid (by rw [HAE3.out, if_pos (.inr (.inl (by rw [HN.out]; exact hbig)))])
        clear hn
        go_wp2
        go_ret2
        exact addR_no HH.out HB4.out HAA.out (by omega)
      have hbI : ¬ (n : Int) > 65536 := by omega
      have hae := HAE3.out
      have HKO : Hid (∀ t ∈ r, Tu.isT t = true ∧ Tu.keyOf x.2.2.1 x.2.2.2.1 x.2.2.2.2 t.toNat = some (key x t)) := Lib.hid fun t ht => ⟨HRT.out t ht, keyOf_fit HOK.out (by have := HFT.out; unfold fitsB at this; exact (List.all_eq_true.1 this) t ht)⟩
      have hvl : vl.length ≤ 100000 := by
        have h1 := HX.out.vlen
        have h2 := imgs_len ts
        have h3 := pairs_len HD.out.turns
        have h4 := HD.out.few
        omega
      have hpx : ∀ q ∈ vl, q.1.2.2.2.2.length ≤ 9000000000 := fun q hq => by
        have h1 : q.1 ∈ imgs ts := by
          have h2 : Said ts (imgs ts) vl := HX.out.vkey
          rw [← h2.imgs]
          exact List.mem_map.2 ⟨q, hq, rfl⟩
        have := area_mem h1
        have := HD.out.small
        omega
      have HLA := Lib.hid (laid_any HX4.out x a c HOK.out HC1.out HC2.out (HS.out.below HB4.out) ra rc r (by rw [HM.out]; omega) (by rw [HM.out]; exact hm9) (by rw [HM.out]; exact Dc.row_slk HR4.out) HKO.out hvl hpx)
      unfold imV agI at HLA
      rw [HM.out, hn] at HLA
      clear hae hvl hpx hn
      go_upto_region 9 with (go_at_call 21; refine HLA.out.mono ?_; rintro e w5 ⟨v5, vl5, bp, rfl, hv5, hs5, hn5, hbp5, hb5⟩; have HV5 := Lib.hid hv5; have HS5 := Lib.hid hs5; have HN5 := Lib.hid hn5; have HBP := Lib.hid hbp5; have HB5 := Lib.hid hb5; clear hv5 hs5 hn5 hbp5 hb5)
      rw [HM.out]
      obtain ⟨a5, c5, e5, hvc5, hvm5⟩ := HV5.out.lies.form
      subst e5
      have him := HS5.out.imgs
      have hn65 : n ≤ 65536 := by omega
      have harb : area (imgs (ts ++ [(x, r)])) ≤ 655360 := by
        have h1 := area_insAll (n := n) (r.map (lay x)) (imgs ts) (fun y hy => by
          obtain ⟨t, _, rfl⟩ := List.mem_map.1 hy
          rw [lay_len x HOK.out, HN.out]; exact Nat.le_refl _)
        have h2 := HD.out.small
        rw [imgs_more]
        show area (insAll (imgs ts) (r.map (lay x))) ≤ 655360
        rw [List.length_map, HM.out] at h1
        have h3 : m * n ≤ 9 * 65536 := Nat.mul_le_mul hm9 hn65
        omega
      have HAR := Lib.hid (area_any _ vl5 w5 HV5.out.lies (by rw [him]; omega))
      rw [him] at HAR
      obtain ⟨ar, har⟩ : ∃ ar, area (imgs (ts ++ [(x, r)])) = ar := ⟨_, rfl⟩
      rw [har] at HAR
      have HA := Lib.hid har
      clear him harb har
      by_cases hful : 65536 < ar
      · have hbI2 : (ar : Int) > 65536 := by omega
        have HAA : Hid (addE ts x l = 8) := Lib.hid (by rw [HAE3.out, if_pos (.inr (.inr (by rw [HA.out]; exact hful)))])
        go_wp2_with (go_at_call 22; refine HAR.out.mono ?_; rintro e w6 ⟨rfl, hb6⟩; have HB6 := Lib.hid (bel_step (bel_step HB4.out HB5.out) hb6); clear hb6)
        go_ret2
        exact addR_no HH.out HB6.out HAA.out (by omega)
      have hbI2 : ¬ (ar : Int) > 65536 := by omega
      have HAA : Hid (addE ts x l = 0) := Lib.hid (by
        rw [HAE3.out, if_neg]
        rintro (h1 | h1 | h1)
        · rw [HNT.out] at h1; exact h64 h1
        · rw [HN.out] at h1; exact hbig h1
        · rw [HA.out] at h1; exact hful h1)
      go_upto_region 11 with (go_at_call 22; refine HAR.out.mono ?_; rintro e w6 ⟨rfl, hb6⟩; have HB56 := Lib.hid (bel_step HB5.out hb6); have HB6 := Lib.hid (bel_step HB4.out (bel_step HB5.out hb6)); have HR6 := Lib.hid (ownsRow_later HR4.out (bel_step HB5.out hb6)); have HE6 := Lib.hid (HE4.out.later (bel_step HB5.out hb6)); have HX6 := Lib.hid (HX.out.later HB6.out); have HV6 := Lib.hid (HV5.out.later hb6); have HN6 := Lib.hid ((hb6.block bp (Array.getElem?_eq_some_iff.1 HN5.out).1).trans HN5.out); have hs6 := hb6.size; clear hb6)
      have b06 := HX6.out.cells.1
      rw [HX.out.tlen, HNT.out] at b06
      have hs5 := HB5.out.size
      have hs4 := HB4.out.size
      clear b0 b1 b2 g0 g1 g2 g3 g4
      go_wp2
      go_loopg [63] m (fun gg s63 wr => ∃ (j : Nat) (vi : List Vr), j + gg = m ∧ s63 = .int .i64 j ∧ VarX wr (fun g => F g ∨ w.heap.size ≤ g) (.slice a5 vl5.length c5) vi ∧ KpOV w.heap.size F w6 wr ∧ Hid (vi.map Vr.key = rowsK ts (x, r) j (imgs (ts ++ [(x, r)])) ∧ vi.length = vl5.length))
      case atStart =>
        refine ⟨0, vl5, by omega, rfl, HV6.out.mono fun g hg => ?_, KpOV.refl _ _ _, ?_, rfl⟩
        · rcases hg with hg | hg
          · exact .inl hg
          · exact .inr (by omega)
        · rw [rowsK_zero]; exact HS5.out
      case round =>
        obtain ⟨j, vi, hj, rfl, hvi, hkp, hI⟩ := hrel
        have HVI := Lib.hid hvi
        have HKP := Lib.hid hkp
        clear hvi hkp
        cases gk with
        | zero =>
          obtain rfl : j = m := by omega
          have hlt : ¬ (j : Int) < (j : Int) := by omega
          obtain ⟨hkey, hvl9⟩ := hI.out
          have HKEY : Hid (vi.map Vr.key = vars (ts ++ [(x, r)])) := Lib.hid (by
            rw [hkey, ← rowsK_all ts (x, r)]
            show rowsK ts (x, r) j _ = rowsK ts (x, r) r.length _
            rw [HM.out])
          have hbx := HKP.out.cells HX6.out.box ⟨by decide, by decide⟩
          have HBX := Lib.hid hbx
          have HT7 : Hid (TplX wr F (.slice ta tl.length tc) tl) := Lib.hid (HX6.out.tpl.keep fun g cs t _ hg ht => (HKP.out.cells hg (by rcases ht with rfl | rfl | rfl <;> exact ⟨by decide, by decide⟩)).trans hg.symm)
          obtain ⟨hmbF, D, hFD0⟩ := HX6.out.fmt
          have HF7 : Hid (FmtD wr mb (fmts ts) D) := Lib.hid (by
            obtain ⟨es, clock, hm⟩ := FmtD.heap (w := w6) (mb := mb) (fs := fmts ts) (D := D) hFD0
            exact FmtD.of_block (w := w6) hFD0 ((HKP.out.block mb _ hm (.inl (by rintro (⟨c, e⟩ | ⟨c, e⟩) <;> cases e))).trans hm.symm))
          have HMB := Lib.hid hmbF
          have HE7 : Hid (Ib wr w.heap.size 36 x.1 x.2.1 (x.2.2.1 : Nat) (x.2.2.2.1 : Nat) (.slice a x.2.2.2.2.length c)) := Lib.hid (HKP.out.cells HE6.out ⟨by decide, by decide⟩)
          have HS7 : Hid (SlK .u64 wr a x.2.2.2.2.length x.2.2.2.2) := Lib.hid (by
            obtain ⟨s1, s2 | ⟨b, o, e, s3⟩⟩ := HS.out
            · exact ⟨s1, .inl s2⟩
            · refine ⟨s1, .inr ⟨b, o, e, fun i hi => ?_⟩⟩
              have h1 := s3 i hi
              have hbl : b < w.heap.size := block_lt_of_cell h1
              have h2 := cell_later HB6.out h1
              obtain ⟨ob, hob⟩ : ∃ ob, w6.heap[b]? = some ob := ⟨_, Array.getElem?_eq_getElem (Nat.lt_of_lt_of_le hbl HB6.out.size)⟩
              exact (World.cell?_of_block (w := w6) (a := ⟨b, o + i, none⟩) ((HKP.out.block b ob hob (.inr ⟨hbl, HFA.out b o e⟩)).trans hob.symm)).trans h2)
          have HRW7 : Hid (wr.ownsRow W1.heap.size 3 1 (.slice ra j rc) j (r.map (Value.int .i64))) := Lib.hid (own_of_block HR6.out fun g hg => by
            obtain ⟨cur, hc⟩ := own_type HR6.out hg
            rw [HKP.out.cells hc ⟨by decide, by decide⟩, hc])
          have HSEP : Hid (Sep F w wr) := Lib.hid (⟨HKP.out.os.trans HB6.out.os, HKP.out.tape.trans HB6.out.tape, HKP.out.output.trans HB6.out.output, Nat.le_trans HB6.out.size HKP.out.size, fun k hk hF => by
            obtain ⟨ob, hob⟩ : ∃ ob, w6.heap[k]? = some ob := ⟨_, Array.getElem?_eq_getElem (Nat.lt_of_lt_of_le hk HB6.out.size)⟩
            exact ((HKP.out.block k ob hob (.inr ⟨hk, hF⟩)).trans hob.symm).trans (HB6.out.block k hk)⟩)
          have hq0 : wr.cell? ⟨sb, 0, none⟩ = some (.slice ta tl.length tc) := by simp [World.cell?, hbx]
          have hq1 : wr.cell? ⟨sb, 1, none⟩ = some vv := by simp [World.cell?, hbx]
          have hqf : wr.frozen? ⟨sb, 1, none⟩ = false := by simp [World.frozen?, hbx]
          have HTL : Hid (tl.length = nt) := Lib.hid (by rw [HX.out.tlen, HNT.out])
          rw [HTL.out] at hq0
          -- the store of the variants
          have hset := Dc.set3 hbx 1 (.slice a5 vl5.length c5)
          obtain ⟨w8, hw8⟩ : ∃ w8, wr.setCell ⟨sb, 1, none⟩ (.slice a5 vl5.length c5) = w8 := ⟨_, rfl⟩
          have HT8 := Lib.hid (HT7.out.box (i := 1) hbx (.slice a5 vl5.length c5))
          have HV8 := Lib.hid (HVI.out.box (i := 1) hbx (.slice a5 vl5.length c5))
          have HF8 := Lib.hid (HF7.out.box (i := 1) hbx (.slice a5 vl5.length c5))
          have HE8 := Lib.hid (Dc.Ib.box HE7.out (i := 1) hbx (.slice a5 vl5.length c5))
          have HB8 : Hid (w8.heap[sb]? = some (.cells #[.slice ta tl.length tc, .slice a5 vl5.length c5, .map (some mb)] 61 (0, 0))) := Lib.hid (by rw [← hw8]; exact hset)
          rw [hw8] at HT8 HV8 HF8 HE8
          have HZ8 : Hid (w8.heap.size = wr.heap.size) := Lib.hid (by rw [← hw8]; simp [World.setCell])
          have HS8 : Hid (SlK .u64 w8 a x.2.2.2.2.length x.2.2.2.2) := Lib.hid (by
            obtain ⟨s1, s2 | ⟨b, o, e, s3⟩⟩ := HS7.out
            · exact ⟨s1, .inl s2⟩
            · refine ⟨s1, .inr ⟨b, o, e, fun i hi => ?_⟩⟩
              have h1 := s3 i hi
              rw [← hw8]
              refine (World.cell?_of_block (w := wr) (a := ⟨b, o + i, none⟩) (Below.heap_setCell wr _ _ b fun e2 => ?_)).trans h1
              have e2' : b = sb := e2
              exact HFA.out b o e (e2' ▸ HX.out.here))
          have HRW8 : Hid (w8.ownsRow W1.heap.size 3 1 (.slice ra j rc) j (r.map (Value.int .i64))) := Lib.hid (by
            rw [← hw8]
            exact own_of_block HRW7.out fun g hg => by
              obtain ⟨cur, hc⟩ := own_type HRW7.out hg
              exact (box_keep HBX.out _ hc (fun c e => by injection e with _ e _; exact absurd e (by decide))).trans hc.symm)
          have HSE8 : Hid (Sep F w w8) := Lib.hid (by rw [← hw8]; exact HSEP.out.trans (Sep.setCell (Z := F) wr (b := sb) HX.out.here _))
          have HW8 := Lib.hid hw8
          obtain ⟨e0, e1, e2, e3, e4⟩ := HE8.out.cells
          have t0 : w8.cell? ⟨sb, 0, none⟩ = some (.slice ta nt tc) := by have := HB8.out; rw [HTL.out] at this; simp [World.cell?, this]
          have hnpos : 0 < n := by
            have h1 := HOK.out
            obtain ⟨k1, k2, k3, k4, k5, k6⟩ := h1
            rw [HN.out] at k6
            rw [k6]
            exact Nat.mul_pos (by omega) (by omega)
          have HCL := Lib.hid (fun (W : World) (hb : Below w8.heap.size w8 W) => dclone_any x a c (by rw [HN.out]; exact hnpos) (by rw [HN.out]; omega) W (HS8.out.below hb))
          unfold agI at HCL
          have HTR8 := Lib.hid HT8.out.row
          rw [HTL.out] at HTR8
          obtain ⟨j0, hj0, hj1, hj2, hj3⟩ := info_parts Try.info_tp
          obtain ⟨ln, hln⟩ : ∃ ln, x.2.2.2.2.length = ln := ⟨_, rfl⟩
          rw [hln] at HCL e4
          have HLNN := Lib.hid hln
          clear hset hw8 hbx hkey hvl9 hmbF hFD0 hI
          go_upto_region 18 with fail
          rw [HW8.out]
          go_region_law
            (first
              | (refine step_append_lies _ rfl _ _ 58 rfl 0 74 j0 (.agg #[.int .i64 0, .int .i64 0, .int .i64 0, .int .i64 0, .slice none 0 0, .slice none 0 0]) 6 80 Try.underlying58 hj0 hj1 hj2 hj3 rfl (by decide) (.slice ta nt tc) nt _ rfl (HTR9.out.alloc _) ⟨w9.heap.size, 0, none⟩ 1 1 [.int .i64 x.1, .int .i64 x.2.1, .int .i64 (x.2.2.1 : Nat), .int .i64 (x.2.2.2.1 : Nat), .slice (some ⟨gc, 0, none⟩) ln capc, .slice ra j rc] rfl rfl (six_new _ _ _ _ _ _ _ _) (by simp [Value.oneCell']) (by omega) (by unfold maxLen; omega) (by omega) (Nat.zero_le _) _ rfl ?_; intro gg9 cc9 w10 hown hgrow hat _; have hgr : w9.grownBy w10 (Value.slice ta nt tc).ownBlock := (by first | exact dgrown_ad hgrow | exact dgrown hgrow); have hb10 := grown_other HTR9.out hgr HB9b.out (fun c e => by injection e with _ e _; exact absurd e (by decide)); have v0 : w10.cell? ⟨sb, 0, none⟩ = some (.slice ta tl.length tc) := (by simp [World.cell?, hb10]); have vf : w10.frozen? ⟨sb, 0, none⟩ = false := (by simp [World.frozen?, hb10]); have HO10 := Lib.hid hown; have HG10 := Lib.hid hgr; have HA10 := Lib.hid hat; have HB10 := Lib.hid hb10; clear hown hgrow hat hgr hb10)
              | (go_simp; go_at_call 23; refine (HCL.out _ ((Below.refl _ _).drew)).mono ?_; rintro e w9 ⟨gc, capc, rfl, hgc, hrc, hb9⟩; have hB9 := bel_dr hb9; have HB9 := Lib.hid hB9; have HTR9 := Lib.hid (ownsRow_later HTR8.out hB9); have HGC := Lib.hid hgc; have HRC := Lib.hid hrc; have HB9b := Lib.hid ((hB9.block sb (Array.getElem?_eq_some_iff.1 HB8.out).1).trans HB8.out); have u0 := cell_later hB9 t0; have u1 := cell_later (bel_step hB9 (dc_box w9 (.cells #[.int .i64 x.1, .int .i64 x.2.1, .int .i64 (x.2.2.1 : Nat), .int .i64 (x.2.2.2.1 : Nat), .slice (some ⟨gc, 0, none⟩) ln capc, .slice ra j rc] 74))) t0; have u2 : (w9.alloc (.cells #[.int .i64 x.1, .int .i64 x.2.1, .int .i64 (x.2.2.1 : Nat), .int .i64 (x.2.2.2.1 : Nat), .slice (some ⟨gc, 0, none⟩) ln capc, .slice ra j rc] 74)).drew.cell? ⟨sb, 0, none⟩ = some (.slice ta nt tc) := u1; clear hgc hrc hb9 hB9))
          all_goals
            have HB11 : Hid ((w10.setCell ⟨sb, 0, none⟩ (.slice (some ⟨gg9, 0, none⟩) (nt + 1) cc9)).heap[sb]? = some (.cells #[.slice (some ⟨gg9, 0, none⟩) (nt + 1) cc9, .slice a5 vl5.length c5, .map (some mb)] 61 (0, 0))) := Lib.hid (by
              have := Dc.set3 HB10.out 0 (.slice (some ⟨gg9, 0, none⟩) (nt + 1) cc9)
              simpa using this)
            have HZ9 := HB9.out.size
            have HZ10 := HG10.out.size
            have HWZ : Hid (w.heap.size ≤ w8.heap.size) := Lib.hid HSE8.out.size
            have HGG : Hid (F gg9 ∨ w.heap.size ≤ gg9) := Lib.hid (by
              rcases HA10.out with e | e
              · exact .inl (HX.out.tpl.here gg9 (by rw [HTL.out]; exact e))
              · right
                have e1 : gg9 = w9.heap.size + 1 := by rw [e]; first | (simp; done) | (show (w9.alloc _).heap.size = _; simp)
                have := HWZ.out
                omega)
            have HT9 : Hid (TplX w9 (fun g => F g ∨ w.heap.size ≤ g) (.slice ta nt tc) tl) := Lib.hid (by
              rw [← HTL.out]
              exact (HT8.out.mono (fun g hg => .inl hg)).keep fun g cs t _ hg _ => HB9.out.block g (Array.getElem?_eq_some_iff.1 hg).1)
            have HT10 : Hid (TplX w10 (fun g => F g ∨ w.heap.size ≤ g) (.slice (some ⟨gg9, 0, none⟩) (nt + 1) cc9) (tl ++ [(x, (some ⟨gc, 0, none⟩, capc), (ra, rc), r)])) := Lib.hid (by
              have := HT9.out.push (r := (x, (some ⟨gc, 0, none⟩, capc), (ra, rc), r)) (w' := w10) (g := gg9) (cap := cc9)
                ⟨by unfold Te.pv; dsimp only; rw [HLNN.out]; exact HRC.out, fun g hg => by
                  unfold Te.pv at hg; simp [Value.ownBlock] at hg; subst hg
                  right
                  have h1 := HGC.out
                  have h2 := HWZ.out
                  have h3 : w8.drew.heap.size = w8.heap.size := rfl
                  first | omega | (rw [h3] at h1; omega)⟩
                ⟨by unfold Te.tv; dsimp only; rw [HM.out]; exact own_of_block (ownsRow_base HRW8.out (Nat.zero_le _)) fun g hg => HB9.out.block g (HRW8.out.lt g hg).2, fun g hg => by
                  unfold Te.tv at hg
                  dsimp only at hg
                  rw [HM.out] at hg
                  right
                  have h1 := (HRW8.out.lt g hg).1
                  have h2 := HB1.out.size
                  omega⟩
                (by rw [HTL.out, List.flatMap_append]; refine (show w10.ownsRow _ _ _ _ _ (tl.flatMap tcs ++ _) from ?_); have h9 := HO10.out; rw [← HLNN.out, ← HM.out] at h9; simpa [tcs] using h9) HG10.out HGG.out
              rw [HTL.out] at this
              exact this)
            have HV10 : Hid (VarX w10 (fun g => F g ∨ w.heap.size ≤ g) (.slice a5 vl5.length c5) vi) := Lib.hid ((HV8.out.later HB9.out).keep fun g cs t _ hg ht => (grown_other HTR9.out HG10.out hg (fun c e => by injection e with _ e _; subst e; rcases ht with e | e | e <;> exact absurd e (by decide))).trans hg.symm)
            have HF9 : Hid (FmtD w9 mb (fmts ts) D) := Lib.hid (by
              obtain ⟨es, clock, hm⟩ := HF8.out.heap
              exact HF8.out.of_block (HB9.out.block mb (Array.getElem?_eq_some_iff.1 hm).1))
            have HF10 : Hid (FmtD w10 mb (fmts ts) D) := Lib.hid (by
              obtain ⟨es, clock, hm⟩ := HF9.out.heap
              exact HF9.out.of_block ((grown_other HTR9.out HG10.out hm (fun c e => by cases e)).trans hm.symm))
            have HE10 : Hid (Ib w10 w.heap.size 36 x.1 x.2.1 (x.2.2.1 : Nat) (x.2.2.2.1 : Nat) (.slice a x.2.2.2.2.length c)) := Lib.hid (grown_other HTR9.out HG10.out (HE8.out.later HB9.out) (fun c e => by injection e with _ e _; exact absurd e (by decide)))
            have HT11 := Lib.hid (HT10.out.box (i := 0) HB10.out (.slice (some ⟨gg9, 0, none⟩) (nt + 1) cc9))
            have HV11 := Lib.hid (HV10.out.box (i := 0) HB10.out (.slice (some ⟨gg9, 0, none⟩) (nt + 1) cc9))
            have HF11 := Lib.hid (HF10.out.box (i := 0) HB10.out (.slice (some ⟨gg9, 0, none⟩) (nt + 1) cc9))
            have HE11 := Lib.hid (Dc.Ib.box HE10.out (i := 0) HB10.out (.slice (some ⟨gg9, 0, none⟩) (nt + 1) cc9))
            have HS11 : Hid (Sep F w (w10.setCell ⟨sb, 0, none⟩ (.slice (some ⟨gg9, 0, none⟩) (nt + 1) cc9))) := Lib.hid (by
              have h1 : Sep F w w9 := HSE8.out.trans ⟨HB9.out.os, HB9.out.tape, HB9.out.output, HB9.out.size, fun k hk _ => HB9.out.block k hk⟩
              have h2 : Sep F w w10 := ⟨HG10.out.os.trans h1.os, HG10.out.tape.trans h1.tape, HG10.out.output.trans h1.output, Nat.le_trans h1.size HG10.out.size, fun k hk hF => (HG10.out.block k (Nat.lt_of_lt_of_le hk h1.size) fun e => hF (HX.out.tpl.here k (by rw [HTL.out]; exact e.symm))).trans (h1.block k hk hF)⟩
              exact h2.trans (Sep.setCell (Z := F) w10 (b := sb) HX.out.here _))
            obtain ⟨w11, hw11⟩ : ∃ w11, w10.setCell ⟨sb, 0, none⟩ (.slice (some ⟨gg9, 0, none⟩) (nt + 1) cc9) = w11 := ⟨_, rfl⟩
            rw [hw11] at HB11 HT11 HV11 HF11 HE11 HS11
            rw [hw11]
            obtain ⟨m0, m1, _, _, _⟩ := HE11.out.cells
            have hb11 := HB11.out
            have s2 : w11.cell? ⟨sb, 2, none⟩ = some (.map (some mb)) := by simp [World.cell?, hb11]
            obtain ⟨y, hlk⟩ := FmtD.look (w := w11.drew) (show FmtD w11.drew mb (fmts ts) D from HF11.out) (f := fmt x) (may_fmt HMAYT.out)
            unfold fv fmt at hlk
            dsimp only at hlk
            clear hb11 hw11 v0 vf u0 u1 u2 t0 e0 e1 e2 e3 e4 hq0 hq1 hqf
            obtain ⟨bf, hbf⟩ : ∃ bf, decide ((x.1, x.2.1) ∈ fmts ts) = bf := ⟨_, rfl⟩
            rw [hbf] at hlk
            have HBF := Lib.hid hbf
            clear hbf
            go_wp2_with fail
            cases bf with
            | true =>
              go_region
              all_goals
                go_wp2
                go_ret2
                refine ⟨by unfold addN; rw [HAA.out, if_pos rfl, HNT.out]; rfl, ?_⟩
                have e1 : addT ts x l = ts ++ [(x, r)] := by unfold addT; rw [HAA.out, if_pos rfl, HRV.out]
                rw [e1]
                have e2 : fmts (ts ++ [(x, r)]) = fmts ts := by
                  rw [fmts_more]; unfold ins; exact if_pos (of_decide_eq_true HBF.out)
                exact dct_end (w := w) (W := w11.drew) ⟨HS11.out.os, HS11.out.tape, HS11.out.output, HS11.out.size, HS11.out.block⟩ HX.out.here HB11.out (HT11.out.of_blocks (fun _ _ => rfl)) (by rw [List.map_append, HX.out.tkey]; rfl) (HV11.out.of_blocks (fun _ _ => rfl)) HKEY.out HMB.out (by rw [e2]; exact HF11.out.of_block rfl)
            | false =>
              go_region
              go_upto_region 21 with fail
              have hfl : (fmts ts).length ≤ 1000000 := by
                have h1 := insAll_len (ts.map fun p => fmt p.1) []
                have h2 := HD.out.few
                rw [List.length_map] at h1
                unfold fmts
                simp only [List.length_nil] at h1
                omega
              have HF12 : FmtD w11.drew.drew mb (fmts ts) D := HF11.out
              have hlen := fun ty => HF12.1.len Try.underlying57 ty
              rw [HF12.2.1] at hlen
              obtain ⟨w12, D2, hmu, hfd, htn⟩ := HF12.more (f := fmt x) (may_fmt HMAYT.out) (of_decide_eq_false HBF.out) hfl
              unfold fv fmt at hmu
              dsimp only at hmu
              obtain ⟨nf, hnf⟩ : ∃ nf, (fmts ts).length = nf := ⟨_, rfl⟩
              rw [hnf] at hmu
              simp only [hnf] at hlen
              have HFD := Lib.hid hfd
              have HTN := Lib.hid htn
              clear hfd htn HF12 hnf hfl
              go_region
              all_goals
                go_wp2
                go_ret2
                refine ⟨by unfold addN; rw [HAA.out, if_pos rfl, HNT.out]; rfl, ?_⟩
                have e1 : addT ts x l = ts ++ [(x, r)] := by unfold addT; rw [HAA.out, if_pos rfl, HRV.out]
                rw [e1]
                have e2 : fmts (ts ++ [(x, r)]) = fmts ts ++ [fmt x] := by
                  rw [fmts_more]; unfold ins; exact if_neg (of_decide_eq_false HBF.out)
                obtain ⟨k1, k2, k3, k4, k5⟩ := mapTurned_block HTN.out
                obtain ⟨es, clock, hmp⟩ := HF11.out.heap
                have hob : ∀ (g : Nat) (cs : Array Value) (t : TypeId), w11.heap[g]? = some (.cells cs t (0, 0)) → w12.heap[g]? = w11.heap[g]? := fun g cs t hg => k5 g fun e => by
                  subst e
                  rw [hmp] at hg; cases hg
                exact dct_end (w := w) (W := w12) ⟨k1.trans HS11.out.os, k2.trans HS11.out.tape, k3.trans HS11.out.output, Nat.le_trans HS11.out.size k4, fun k hk hF => (k5 k fun e => hF (e ▸ HMB.out)).trans (HS11.out.block k hk hF)⟩ HX.out.here ((hob _ _ _ HB11.out).trans HB11.out) (HT11.out.keep fun g cs t _ hg _ => hob g cs t hg) (by rw [List.map_append, HX.out.tkey]; rfl) (HV11.out.keep fun g cs t _ hg _ => hob g cs t hg) HKEY.out HMB.out (by rw [e2]; exact HFD.out)
        | succ gg =>
          have hjm : j < m := by omega
          have hlt : (j : Int) < (m : Int) := by omega
          have hjr : j < r.length := by rw [HM.out]; exact hjm
          obtain ⟨hkey, hvl9⟩ := hI.out
          have hgd : r.getD j 0 = r[j] := by rw [List.getD_eq_getElem?_getD, List.getElem?_eq_getElem hjr]; rfl
          have hmem : lay x (r.getD j 0) ∈ imgs (ts ++ [(x, r)]) := by
            rw [imgs_more, insAll_mem]
            exact .inr (List.mem_map.2 ⟨r[j], List.getElem_mem hjr, by rw [hgd]⟩)
          obtain ⟨z, hz1, hz2, hz3⟩ := plc_at hmem
          have hrow9 : (rowsK ts (x, r) j (imgs (ts ++ [(x, r)])))[z]? = some (lay x (r.getD j 0), own ts (lay x (r.getD j 0)) ++ adds ts.length (x, r) j (lay x (r.getD j 0))) := by
            unfold rowsK; rw [List.getElem?_map, hz3]; rfl
          rw [← hkey, List.getElem?_map] at hrow9
          obtain ⟨q, hq⟩ : ∃ q, vi[z]? = some q := by
            cases hq : vi[z]? with
            | none => rw [hq] at hrow9; cases hrow9
            | some q => exact ⟨q, rfl⟩
          rw [hq] at hrow9
          injection hrow9 with hrow9
          have hq1 : q.1 = lay x (r.getD j 0) := congrArg Prod.fst hrow9
          have hq2 : q.2.2.2 = own ts (lay x (r.getD j 0)) ++ adds ts.length (x, r) j (lay x (r.getD j 0)) := congrArg Prod.snd hrow9
          have hos : q.2.2.2.length ≤ 1000 := by
            rw [hq2, List.length_append]
            have h1 := own_len ts (lay x (r.getD j 0))
            have h2 := pairs_len HD.out.turns
            have h3 := adds_len ts.length (x, r) j (lay x (r.getD j 0))
            have h4 := HD.out.few
            have h5 : (x, r).2.length = m := HM.out
            omega
          have hzl : z < vi.length := (List.getElem?_eq_some_iff.1 hq).1
          have hzlt : (z : Int) < (vl5.length : Int) := by omega
          have hz0 : (0 : Int) ≤ (z : Int) := by omega
          obtain ⟨gv, cv, ev, hc5⟩ := HVI.out.lies.cell (j := 5) hq rfl
          injection ev with ev1 ev2 ev3
          subst ev1
          subst ev3
          clear ev2
          have hpn : wr.cell? ⟨bp, j, none⟩ = some (.int .i64 (z : Int)) := by
            have h1 : OwnI wr bp 3 (r.map fun t => plc (imgs (ts ++ [(x, r)])) (lay x t)) := HKP.out.cells HN6.out ⟨by decide, by decide⟩
            rw [h1.cell (by rw [List.length_map]; exact hjr), List.getD_eq_getElem?_getD, List.getElem?_map, List.getElem?_eq_getElem hjr, ← hz1, hgd]
            rfl
          have hrw : wr.ownsRow W1.heap.size 3 1 (.slice ra m rc) m (r.map (Value.int .i64)) := own_of_block HR6.out fun g hg => by
            obtain ⟨cur, hc⟩ := own_type HR6.out hg
            rw [HKP.out.cells hc ⟨by decide, by decide⟩, hc]
          obtain ⟨gr, cr, er⟩ := ownsRow_pos hrw (by omega)
          injection er with er1 er2 er3
          subst er1
          subst er3
          obtain ⟨tj, htj⟩ : ∃ tj, r.getD j 0 = tj := ⟨_, rfl⟩
          have hrc : wr.cell? ⟨gr, j, none⟩ = some (.int .i64 tj) := by
            rw [hrw.cellAt _ (by omega), List.getElem?_map, List.getElem?_eq_getElem hjr, ← htj, hgd]; rfl
          have HOW := Lib.hid (HVI.out.own q (List.mem_of_getElem? hq)).1
          have HOF := Lib.hid (HVI.out.own q (List.mem_of_getElem? hq)).2
          have HQ := Lib.hid hq
          have HQ2 := Lib.hid hq2
          have HZ3 := Lib.hid hz3
          have HTJ := Lib.hid htj
          have HVL9 := Lib.hid hvl9
          have hroom := Lib.hid (fun (w1 : World) (hg : wr.grownBy w1 (Vr.ov q).ownBlock) => HVI.out.room hq (by rw [hvl9]) hg)
          obtain ⟨i0, hi, hz00, hz01, hz02⟩ := info_parts Try.info_ow
          obtain ⟨on, hon⟩ : ∃ on, q.2.2.2.length = on := ⟨_, rfl⟩
          obtain ⟨oa, hoa⟩ : ∃ oa, q.2.2.1.1 = oa := ⟨_, rfl⟩
          obtain ⟨oc, hoc⟩ : ∃ oc, q.2.2.1.2 = oc := ⟨_, rfl⟩
          unfold Vr.ov at HOW hroom
          rw [hon, hoa, hoc] at HOW hroom
          rw [hon, hoa, hoc] at hc5
          rw [hon] at hos
          have HON := Lib.hid hon
          have HOA := Lib.hid hoa
          have HOC := Lib.hid hoc
          clear hkey hvl9 hgd hmem hz1 hz2 hz3 hrow9 hq hq1 hq2 hrw htj hon hoa hoc
          have hc5b : (wr.alloc (.cells #[.int .i64 (nt : Int), .int .i64 tj] 71)).drew.cell? ⟨gv, z * 6 + 5, none⟩ = some (.slice oa on oc) := (cell_later (dc_box wr (.cells #[.int .i64 (nt : Int), .int .i64 tj] 71)) hc5 : (wr.alloc (.cells #[.int .i64 (nt : Int), .int .i64 tj] 71)).cell? ⟨gv, z * 6 + 5, none⟩ = some (.slice oa on oc))
          go_upto_region 15 with fail
          go_region_law (refine step_append_lies _ rfl _ _ 38 rfl 0 71 i0 (.agg #[.int .i64 0, .int .i64 0]) 2 16 Try.underlying38 hi hz00 hz01 hz02 rfl (by decide) (.slice oa on oc) on _ rfl (HOW.out.alloc _) ⟨wr.heap.size, 0, none⟩ 1 1 [.int .i64 (nt : Int), .int .i64 tj] rfl rfl (dtwo_new _ _ _ _) (by simp [Value.oneCell']) (by omega) (by unfold maxLen; omega) (by omega) (Nat.zero_le _) _ rfl ?_; intro gg9 cc9 w9 hown hgrow hat _; have hgr := dgrown_ad (w := wr) hgrow; obtain ⟨hcr, hfr, hcur⟩ := hroom.out w9 hgr; have HCU := Lib.hid hcur; clear hcur; have HO9 := Lib.hid hown; have HG9 := Lib.hid hgr; have HA9 := Lib.hid hat; clear hown hgrow hat hgr)
          all_goals
            go_wp2
            go_roundg gg
            case measure => omega
            case rel =>
              have hats : (Vr.ov q).ownBlock = some gg9 ∨ wr.heap.size ≤ gg9 := by
                rcases HA9.out with e | e
                · left; unfold Vr.ov; rw [HON.out, HOA.out, HOC.out]; exact e
                · right
                  have e1 : (wr.alloc (.cells #[.int .i64 (nt : Int), .int .i64 tj] 71)).drew.heap.size = wr.heap.size + 1 := by show (wr.alloc _).heap.size = _; simp
                  omega
              have hwr : w.heap.size ≤ wr.heap.size := Nat.le_trans (Nat.le_trans hs4 (Nat.le_trans hs5 hs6)) HKP.out.size
              have hGg : F gg9 ∨ w.heap.size ≤ gg9 := by
                rcases hats with e | e
                · exact HOF.out gg9 e
                · exact .inr (by omega)
              have hgro : wr.grownBy w9 (Vr.ov q).ownBlock := by unfold Vr.ov; rw [HON.out, HOA.out, HOC.out]; exact HG9.out
              have hrw9 : w9.ownsRow 0 71 2 (.slice (some ⟨gg9, 0, none⟩) (q.2.2.2.length + 1) cc9) (q.2.2.2.length + 1) ((q.2.2.2 ++ [((nt : Int), tj)]).flatMap ocs) := by
                rw [List.flatMap_append, HON.out]
                exact HO9.out
              have hvn := HVI.out.ownAt HQ.out (by rw [HVL9.out]) hrw9 hgro hats hGg
              rw [HON.out] at hvn
              obtain ⟨cur, hcur⟩ := HCU.out
              have hgF : F gv ∨ w.heap.size ≤ gv := HVI.out.here gv rfl
              refine ⟨j + 1, _, by omega, by go_num, hvn, (HKP.out.trans (KpOV.grown (v := Vr.ov q) hgro fun g hg => ⟨?_, HOF.out g hg⟩)).trans (KpOV.set w9 (.inl hcur) hgF _), ?_, by rw [List.length_set]; exact HVL9.out⟩
              · have h1 : wr.ownsRow 0 71 2 (Vr.ov q) on (q.2.2.2.flatMap ocs) := by unfold Vr.ov; rw [HON.out, HOA.out, HOC.out]; exact HOW.out
                exact own_type h1 hg
              · have hk := hI.out.1
                have hq1 : q.1 = lay x tj := by
                  have h1 := congrArg (fun l : List Va => l[z]?) hk
                  rw [List.getElem?_map, HQ.out] at h1
                  unfold rowsK at h1
                  rw [List.getElem?_map, HZ3.out] at h1
                  injection h1 with h1
                  rw [← HTJ.out]
                  exact congrArg Prod.fst h1
                have h2 := rowsK_succ ts (x, r) (k := j) (i := z) (by show j < r.length; omega) (imgs_nodup _) HZ3.out rfl
                rw [h2, ← hk, List.map_set]
                congr 1
                show (q.1, q.2.2.2 ++ [((nt : Int), tj)]) = _
                rw [hq1, HQ2.out, HTJ.out, HNT.out]
end Go.Proofs.Ytmlinoanpcbflaa

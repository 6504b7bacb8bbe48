/- A node's children's numbers: by the document's tree. Condition: few paths. -/
import Derived.Test.YtaechkdmijgfiaaTrY
import Derived.Test.YtaechkdmijgfiaaTrH
import Derived.Test.YtaechkdmijgfiaaApp
import Derived.Test.YtaechkdmijgfiaaTrK
import Derived.Test.YtaechkdmijgfiaaTrR
namespace Go.Proofs.Ytaechkdmijgfiaa
open Go.RowKit
set_option linter.unusedVariables false
namespace Tr
def isK (L : LL) (k : Int) (j : Nat) : Bool := decide (0 ≤ k ∧ parV L j = k)
/-- the numbers of k's children among the first i nodes, rising -/
def ksN (L : LL) (k : Int) (i : Nat) : List Int := (((List.range i).filter (isK L k)).map (num L)).foldl insP []
theorem ksN_succ (L : LL) (k : Int) (i : Nat) : ksN L k (i + 1) = if 0 ≤ k ∧ parV L i = k then insP (ksN L k i) (num L i) else ksN L k i := by
  unfold ksN
  rw [List.range_succ, List.filter_append, List.map_append, List.foldl_append]
  by_cases e : 0 ≤ k ∧ parV L i = k
  · rw [if_pos e, show List.filter (isK L k) [i] = [i] by simp only [List.filter, isK, decide_eq_true e]]; rfl
  · rw [if_neg e, show List.filter (isK L k) [i] = [] by simp only [List.filter, isK, decide_eq_false e]]; rfl
theorem insP_len (K : List Int) (p : Int) : (insP K p).length = K.length + 1 := by
  unfold insP; rw [List.length_append, List.length_cons, List.length_take, List.length_drop]; have := place_le K p; omega
theorem ksN_len (L : LL) (k : Int) : ∀ i, (ksN L k i).length ≤ i
  | 0 => Nat.le_refl _
  | i + 1 => by
    have := ksN_len L k i
    rw [ksN_succ]; split
    · rw [insP_len]; omega
    · omega
theorem ksN_all (L : LL) (k : Int) : ksN L k L.length = kidsV L k := by
  unfold kidsV
  by_cases ho : out L k
  · rw [if_pos ho]; unfold ksN
    rw [show (List.range L.length).filter (isK L k) = [] from List.filter_eq_nil_iff.2 (fun j hj h => by
      have h' := of_decide_eq_true h
      have := parV_in L j
      omega)]
    rfl
  · rw [if_neg ho]
    have e : isK L k = isKid L (k.toNat : Int) := by
      funext j; unfold isK isKid; exact decide_eq_decide.2 ⟨fun h => by omega, fun h => by omega⟩
    unfold ksN kids
    rw [e, map_foldl]; rfl
theorem num_at {L : LL} {i j : Nat} (h : (L.getD i []).length = j + 1) : (L.getD i []).getD j 0 = num L i := by
  unfold num
  rw [List.getLastD_eq_getLast?, List.getLast?_eq_getElem?, List.getD_eq_getElem?_getD, h]; rfl
end Tr
open Tr
theorem slk_none {q : IntKind} (w : World) {a : Option Addr} : SlK q w a 0 [] := ⟨rfl, .inl rfl⟩
theorem slk_drop {q : IntKind} {w : World} {b o n : Nat} {l : List Int} (h : SlK q w (some ⟨b, o, none⟩) n l) {t : Nat} (ht : t ≤ n) : SlK q w (some ⟨b, o + t, none⟩) (n - t) (l.drop t) := by
  refine ⟨by rw [List.length_drop, h.1], ?_⟩
  rcases h.2 with h0 | ⟨b', o', e, hc⟩
  · exact .inl (by omega)
  · injection e with e; injection e with e1 e2; subst e1 e2
    refine .inr ⟨b, o + t, rfl, fun i hi => ?_⟩
    have := hc (t + i) (by omega)
    rw [Nat.add_assoc, this, List.getD_eq_getElem?_getD, List.getD_eq_getElem?_getD, List.getElem?_drop]
theorem row_form {w : World} {B : Nat} {e : TypeId} {a : Option Addr} {n c : Nat} {xs : List Value} (h : w.ownsRow B e 1 (.slice a n c) n xs) : (a = none ∧ n = 0 ∧ c = 0) ∨ ∃ g, a = some ⟨g, 0, none⟩ := by
  rcases h.2 with ⟨e1, _⟩ | ⟨g, cap, cur, e1, _⟩
  · injection e1 with e1 e2 e3; exact .inl ⟨e1, e2, e3⟩
  · injection e1 with e1 e2 e3; exact .inr ⟨g, e1⟩
theorem kids_row {w : World} {B : Nat} {e : TypeId} {v : Value} {t nk : Nat} {K : List Int} {p : Int} (hn : K.length = nk) (ht : t ≤ nk) (hp : place K p = t) (h : w.ownsRow B e 1 v (t + 1 + (nk - t)) ((K.take t).map (Value.int .u64) ++ [.int .u64 p] ++ (K.drop t).map (Value.int .u64))) : w.ownsRow B e 1 v (insP K p).length ((insP K p).map (Value.int .u64)) := by
  have e1 : (insP K p).length = t + 1 + (nk - t) := by rw [insP_len]; omega
  rw [e1]; unfold insP; rw [hp, List.map_append, List.map_cons]
  simpa using h
theorem kids_row0 {w : World} {B : Nat} {e : TypeId} {v : Value} {t : Nat} {K : List Int} {p : Int} (hn : K.length = t) (ht : t ≤ t) (hp : place K p = t) (h : w.ownsRow B e 1 v (t + 1 + 0) ((K.take t).map (Value.int .u64) ++ [.int .u64 p] ++ ([] : List Int).map (Value.int .u64))) : w.ownsRow B e 1 v (insP K p).length ((insP K p).map (Value.int .u64)) := by
  refine kids_row hn ht hp ?_
  rw [Nat.sub_self, List.drop_of_length_le (by omega)]; exact h
set_option maxRecDepth 100000 in
set_option maxHeartbeats 4000000 in
theorem refKids_tr {w : World} {la wa : Option Addr} {ln lc wn wq : Nat} {vs : List Value} {L : LL} (h : Rv w la ln vs L) (hI : Inv L) (hn : ln ≤ 1000) (k : Int) :
    Calls Try.prog 17 #[.agg #[.slice la ln lc, .slice wa wn wq], .int .i64 k] w (KidsR (kidsV L k) w) := by
  obtain ⟨i0, hi, hz0, hz1, hz2⟩ := info_parts Try.info_pxT
  have hb := box1T w (.cells #[.slice la ln lc, .slice wa wn wq] 25)
  have HB := Lib.hid hb
  have HT := Lib.hid (Tv.new w (.slice la ln lc) (.slice wa wn wq))
  have HR := Lib.hid (h.later hb)
  have HLL := Lib.hid h.rl
  have HI := Lib.hid hI
  obtain ⟨W, hW⟩ : ∃ W, w.alloc (.cells #[.slice la ln lc, .slice wa wn wq] 25) = W := ⟨_, rfl⟩
  rw [hW] at HB HT HR
  have HO0 := Lib.hid (World.ownsRow_nil W W.heap.size 43 1)
  rw [← ksN_all, HLL.out]
  clear h hb hI
  go_enter Try.func17, Try.ntmps17
  go_upto_region 1 with fail
  try rw [hW]
  clear hW
  go_wp2_with fail
  go_loopw [5, 6] (fun s5 s6 wr => ∃ i : Nat, i ≤ ln ∧ s6 = .int .i64 i ∧ wr.ownsRow W.heap.size 43 1 s5 (ksN L k i).length ((ksN L k i).map (Value.int .u64)) ∧ Below W.heap.size W wr) (fun _ s6 _ => ln - (intOf s6).toNat)
  case atStart => exact ⟨0, Nat.zero_le _, rfl, HO0.out, Below.refl _ _⟩
  case round =>
    obtain ⟨i, hil, rfl, hrow, hb⟩ := hrel
    have HROW := Lib.hid hrow
    have HBr := Lib.hid hb
    have HSZ := Lib.hid hb.size
    have HTr := Lib.hid (HT.out.later hb)
    obtain ⟨x0, x1⟩ := HTr.out.cells
    have ld := load_tv HTr.out
    by_cases hlt : i < ln
    · have hltI : (i : Int) < (ln : Int) := by omega
      have hi0 : (0 : Int) ≤ (i : Int) := Int.natCast_nonneg _
      have HPa := Lib.hid (refParent_tr (wa := wa) (wn := wn) (wc := wq) (lc := lc) (HR.out.later hb) HI.out (by omega) (i : Int))
      have HSU := Lib.hid (ksN_succ L k i)
      have hkl := ksN_len L k i
      have HPZ : Hid (i = 0 → parV L i = -1) := Lib.hid fun e => by subst e; unfold parV; rw [if_pos (.inl (by omega))]
      obtain ⟨y, hy⟩ : ∃ y, parV L i = y := ⟨_, rfl⟩
      rw [hy] at HPa HSU HPZ
      obtain ⟨K, hK⟩ : ∃ K, ksN L k i = K := ⟨_, rfl⟩
      rw [hK] at HROW HSU hkl
      obtain ⟨nk, hnk⟩ : ∃ nk, K.length = nk := ⟨_, rfl⟩
      rw [hnk] at HROW hkl
      have HNK := Lib.hid hnk
      clear hrow hb hy hK hnk
      by_cases hc : 0 ≤ k ∧ y = k
      · obtain ⟨hk0, rfl⟩ := hc
        obtain ⟨W1, rfl⟩ : ∃ W1, W1 = wr := ⟨_, rfl⟩
        obtain ⟨ak, ck, er, hsk, hck1, hck2⟩ := ok1_own HROW.out (by omega) (Fr.below (Below.refl W1.heap.size W1)).p
        rw [HNK.out] at er hsk hck1
        subst er
        have HFORM := Lib.hid (row_form HROW.out)
        have HSK := Lib.hid (fun (W' : World) (hw : Below W1.heap.size W1 W') => hsk.below hw)
        clear hsk
        have hs := HSU.out
        rw [if_pos ⟨hk0, rfl⟩] at hs
        have HS := Lib.hid hs
        have e0 : (y != y) = false := by simp
        have e1 : ¬ y < 0 := by omega
        have hi1 : 1 ≤ i := by
          rcases Nat.eq_zero_or_pos i with e | e
          · have := HPZ.out e; omega
          · exact e
        have hne := (HI.out.up i hi1 (by rw [HLL.out]; exact hlt)).1
        obtain ⟨ai, ci, e2, e3, e4, e5⟩ := (HR.out.later HBr.out).each i hlt
        have hcl : ∃ b o, la = some ⟨b, o, none⟩ ∧ ∀ W', Below W1.heap.size W1 W' → W'.cell? ⟨b, o + i, none⟩ = some (.slice ai (L.getD i []).length ci) := by
          rcases (HR.out.later HBr.out).cells with h0 | ⟨b, o, ee, hc⟩
          · omega
          · exact ⟨b, o, ee, fun W' hw => cell_later hw (by rw [hc i hlt, e2])⟩
        obtain ⟨b, o, rfl, hc⟩ := hcl
        obtain ⟨j, hj⟩ : ∃ j, (L.getD i []).length = j + 1 := by
          rcases Nat.eq_zero_or_pos (L.getD i []).length with e0 | e0
          · exact absurd (List.length_eq_zero_iff.1 e0) hne
          · exact ⟨(L.getD i []).length - 1, by omega⟩
        have hnum := num_at hj
        rw [hj] at e3 e4 hc
        obtain ⟨b2, o2, rfl, hpc⟩ := slk_at e3 (by omega)
        have hpj := hpc j (by omega)
        rw [hnum] at hpj
        obtain ⟨p, hp⟩ : ∃ p, num L i = p := ⟨_, rfl⟩
        rw [hp] at hpj HS
        have HC := Lib.hid hc
        have HPJ := Lib.hid (fun (W' : World) (hw : Below W1.heap.size W1 W') => cell_later hw hpj)
        have hjm : ((j + 1 : Nat) : Int) - 1 = (j : Int) := by omega
        have hj0 : (0 : Int) ≤ (j : Int) := Int.natCast_nonneg _
        have hjn : ¬ (j : Int) < 0 := by omega
        have hjmx : max (j : Int) 0 = (j : Int) := by omega
        have hj1 : (j : Int) < (j : Int) + 1 := by omega
        have hjw : IntKind.i64.wrap (j : Int) = (j : Int) := by simp [IntKind.wrap, IntKind.bits, IntKind.signed]; omega
        clear hs HSU hne e2 e3 e4 e5 hc hj hnum hpc hpj hp HPZ
        go_wp2_with (go_at_call 12; refine HPa.out.mono ?_; rintro e w9 ⟨rfl, hb9⟩; have HB9 := Lib.hid hb9; clear hb9)
        have c1 := HC.out _ HB9.out
        have c2 := HPJ.out _ HB9.out
        have hT9 := HTr.out.later HB9.out
        have ld9 := load_tv hT9
        obtain ⟨z0, z1⟩ := hT9.cells
        clear hT9
        go_cut [7] from 10 to 68 (fun s7 wx => s7 = .int .u64 p ∧ Below w9.heap.size w9 wx)
        case first =>
          go_region_law (fail)
          all_goals
            go_wp2_with fail
            go_meet
            case rel => exact ⟨rfl, by first | exact Below.refl _ _ | exact (Below.refl _ _).drew⟩
        case rest =>
          obtain ⟨rfl, hbc⟩ := hcut
          have HBC := Lib.hid (bel_step HB9.out hbc)
          clear hbc c1 c2 ld9 z0 z1
          go_wp2_with fail
          go_loopw [8] (fun s8 wz => ∃ t : Nat, t ≤ nk ∧ s8 = .int .i64 t ∧ (∀ u, u < t → K.getD u 0 < p) ∧ Below wc.heap.size wc wz) (fun s8 _ => nk - (intOf s8).toNat)
          case atStart => exact ⟨0, Nat.zero_le _, rfl, fun u hu => by omega, by first | exact Below.refl _ _ | exact (Below.refl _ _).drew⟩
          case round =>
            obtain ⟨t, ht, rfl, hlo, hbz⟩ := hrel
            have HLO := Lib.hid hlo
            have HBZ := Lib.hid hbz
            have HBW := Lib.hid (bel_step HBC.out hbz)
            clear hlo hbz
            by_cases htk : t < nk
            · have htI : (t : Int) < (nk : Int) := by omega
              have ht0 : (0 : Int) ≤ (t : Int) := Int.natCast_nonneg _
              obtain ⟨b3, o3, rfl, hcc⟩ := slk_at (HSK.out _ HBW.out) (by omega)
              have hct := hcc t htk
              obtain ⟨z, hz⟩ : ∃ z, K.getD t 0 = z := ⟨_, rfl⟩
              rw [hz] at hct
              have HZ := Lib.hid hz
              clear hcc hz
              by_cases hzp : z < p
              · go_wp2_with fail
                go_roundw
                case rel =>
                  refine ⟨t + 1, by omega, by go_num, fun u hu => ?_, HBZ.out⟩
                  by_cases e : u = t
                  · subst e; rw [HZ.out]; exact hzp
                  · exact HLO.out u (by omega)
                case measure => simp [intOf]; omega
              · have hpl := place_eq (K := K) (p := p) (k := t) (by rw [HNK.out]; omega) HLO.out (fun _ => by rw [HZ.out]; omega)
                have HPL := Lib.hid hpl
                have HSA := Lib.hid (slk_take (HSK.out _ HBW.out) (show t ≤ nk by omega))
                have HN0 := Lib.hid (World.ownsRow_nil wr wr.heap.size 43 1)
                have HLE := Lib.hid (Nat.le_refl wr.heap.size)
                have htc : (t : Int) ≤ (ck : Int) := by omega
                have hsW : W.heap.size ≤ wr.heap.size := Nat.le_trans HSZ.out HBW.out.size
                have HSD := Lib.hid (fun (W' : World) (hw : Below wr.heap.size wr W') => slk_drop (HSK.out _ (bel_step HBW.out hw)) (show t ≤ nk by omega))
                have HB1 := Lib.hid (bel_step HBr.out HBW.out)
                clear hpl
                go_wp2_with (first
                  | (at_builtin; refine wpList_app rfl _ _ 29 rfl wr.heap.size 43 i0 .u64 8 Try.underlying29 hi hz0 hz1 hz2 (.slice none 0 0) 0 [] rfl HN0.out _ t ck (K.take t) rfl HSA.out (by unfold maxLen; omega) (by omega) HLE.out ?_; intro v2 w2 hown hgrow _; rw [Nat.zero_add, List.nil_append] at hown; have H1 := Lib.hid hown; have S2 := hgrow.size; have C2 := Lib.hid ((Below.refl wr.heap.size wr).grown hgrow (Nat.le_refl _) (fun j e => by cases e)); have B2 := Lib.hid (HB1.out.grown hgrow hsW (fun j e => by cases e)); clear hown hgrow)
                  | (at_builtin; refine wpList_append_lies _ rfl _ _ 29 rfl wr.heap.size 43 i0 (.int .u64 0) 1 8 Try.underlying29 hi hz0 hz1 hz2 rfl (by decide) _ t _ rfl (H1.out.alloc _) ⟨w2.heap.size, 0, none⟩ 1 1 [.int .u64 p] rfl rfl (one_newT2 _ _ _) (by simp [Value.oneCell']) (by omega) (by unfold maxLen; omega) (by omega) (by simp; omega) _ rfl ?_; intro gg cc w3 hown hgrow hat _; have H2 := Lib.hid hown; have C3 := Lib.hid (C2.out.grown (grown_trans2 hgrow) S2 (fun j e => (H1.out.lt j e).1)); have B3 := Lib.hid (B2.out.grown (grown_trans2 hgrow) (by omega) (fun j e => Nat.le_trans hsW (H1.out.lt j e).1)); have S3 := C3.out.size; clear hown hgrow hat)
                  | (at_builtin; refine wpList_app rfl _ _ 29 rfl wr.heap.size 43 i0 .u64 8 Try.underlying29 hi hz0 hz1 hz2 _ (t + 1) _ rfl H2.out _ (nk - t) _ (K.drop t) rfl (HSD.out _ C3.out) (by unfold maxLen; omega) (by omega) S3 ?_; intro v4 w4 hown hgrow _; have H3 := Lib.hid hown; have B4 := Lib.hid (B3.out.grown hgrow (by omega) (fun j e => Nat.le_trans hsW (H2.out.lt j e).1)); clear hown hgrow))
                go_roundw
                case rel =>
                  refine ⟨i + 1, by omega, by go_num, ?_, B4.out⟩
                  rw [HS.out]
                  exact ownsRow_base (kids_row HNK.out ht HPL.out H3.out) hsW
                case measure => simp [intOf]; omega
            · have htI : ¬ (t : Int) < (nk : Int) := by omega
              have ht0 : (0 : Int) ≤ (t : Int) := Int.natCast_nonneg _
              have hpl := place_eq (K := K) (p := p) (k := t) (by rw [HNK.out]; omega) HLO.out (fun h => by rw [HNK.out] at h; omega)
              obtain rfl : t = nk := by omega
              rcases HFORM.out with ⟨rfl, h0, h1⟩ | ⟨g, rfl⟩
              · subst h1
                obtain rfl : t = 0 := by omega
                have HPL := Lib.hid hpl
                have HSA := Lib.hid (slk_take (HSK.out _ HBW.out) (show 0 ≤ 0 by omega))
                have HN0 := Lib.hid (World.ownsRow_nil wr wr.heap.size 43 1)
                have HLE := Lib.hid (Nat.le_refl wr.heap.size)
                have htc : ((0 : Nat) : Int) ≤ ((0 : Nat) : Int) := by omega
                have hsW : W.heap.size ≤ wr.heap.size := Nat.le_trans HSZ.out HBW.out.size
                have HSD := Lib.hid (fun (W' : World) (hw : Below wr.heap.size wr W') => fun (a : Option Addr) => slk_none (q := .u64) (a := a) W')
                have HB1 := Lib.hid (bel_step HBr.out HBW.out)
                clear hpl
                go_wp2_with (first
                  | (at_builtin; refine wpList_app rfl _ _ 29 rfl wr.heap.size 43 i0 .u64 8 Try.underlying29 hi hz0 hz1 hz2 (.slice none 0 0) 0 [] rfl HN0.out _ 0 0 (K.take 0) rfl HSA.out (by unfold maxLen; omega) (by omega) HLE.out ?_; intro v2 w2 hown hgrow _; rw [Nat.zero_add, List.nil_append] at hown; have H1 := Lib.hid hown; have S2 := hgrow.size; have C2 := Lib.hid ((Below.refl wr.heap.size wr).grown hgrow (Nat.le_refl _) (fun j e => by cases e)); have B2 := Lib.hid (HB1.out.grown hgrow hsW (fun j e => by cases e)); clear hown hgrow)
                  | (at_builtin; refine wpList_append_lies _ rfl _ _ 29 rfl wr.heap.size 43 i0 (.int .u64 0) 1 8 Try.underlying29 hi hz0 hz1 hz2 rfl (by decide) _ 0 _ rfl (H1.out.alloc _) ⟨w2.heap.size, 0, none⟩ 1 1 [.int .u64 p] rfl rfl (one_newT2 _ _ _) (by simp [Value.oneCell']) (by omega) (by unfold maxLen; omega) (by omega) (by simp; omega) _ rfl ?_; intro gg cc w3 hown hgrow hat _; have H2 := Lib.hid hown; have C3 := Lib.hid (C2.out.grown (grown_trans2 hgrow) S2 (fun j e => (H1.out.lt j e).1)); have B3 := Lib.hid (B2.out.grown (grown_trans2 hgrow) (by omega) (fun j e => Nat.le_trans hsW (H1.out.lt j e).1)); have S3 := C3.out.size; clear hown hgrow hat)
                  | (at_builtin; refine wpList_app rfl _ _ 29 rfl wr.heap.size 43 i0 .u64 8 Try.underlying29 hi hz0 hz1 hz2 _ (0 + 1) _ rfl H2.out _ 0 _ [] rfl (HSD.out _ C3.out _) (by unfold maxLen; omega) (by omega) S3 ?_; intro v4 w4 hown hgrow _; have H3 := Lib.hid hown; have B4 := Lib.hid (B3.out.grown hgrow (by omega) (fun j e => Nat.le_trans hsW (H2.out.lt j e).1)); clear hown hgrow))
                go_roundw
                case rel =>
                  refine ⟨i + 1, by omega, by go_num, ?_, B4.out⟩
                  rw [HS.out]
                  exact ownsRow_base (kids_row0 HNK.out (by omega) HPL.out H3.out) hsW
                case measure => simp [intOf]; omega
              · by_cases hck : ck = t
                · obtain rfl : t = ck := hck.symm
                  have HPL := Lib.hid hpl
                  have HSA := Lib.hid (slk_take (HSK.out _ HBW.out) (show t ≤ t by omega))
                  have HN0 := Lib.hid (World.ownsRow_nil wr wr.heap.size 43 1)
                  have HLE := Lib.hid (Nat.le_refl wr.heap.size)
                  have htc : (t : Int) ≤ (t : Int) := by omega
                  have hsW : W.heap.size ≤ wr.heap.size := Nat.le_trans HSZ.out HBW.out.size
                  have HSD := Lib.hid (fun (W' : World) (hw : Below wr.heap.size wr W') => fun (a : Option Addr) => slk_none (q := .u64) (a := a) W')
                  have HB1 := Lib.hid (bel_step HBr.out HBW.out)
                  clear hpl
                  go_wp2_with (first
                    | (at_builtin; refine wpList_app rfl _ _ 29 rfl wr.heap.size 43 i0 .u64 8 Try.underlying29 hi hz0 hz1 hz2 (.slice none 0 0) 0 [] rfl HN0.out _ t t (K.take t) rfl HSA.out (by unfold maxLen; omega) (by omega) HLE.out ?_; intro v2 w2 hown hgrow _; rw [Nat.zero_add, List.nil_append] at hown; have H1 := Lib.hid hown; have S2 := hgrow.size; have C2 := Lib.hid ((Below.refl wr.heap.size wr).grown hgrow (Nat.le_refl _) (fun j e => by cases e)); have B2 := Lib.hid (HB1.out.grown hgrow hsW (fun j e => by cases e)); clear hown hgrow)
                    | (at_builtin; refine wpList_append_lies _ rfl _ _ 29 rfl wr.heap.size 43 i0 (.int .u64 0) 1 8 Try.underlying29 hi hz0 hz1 hz2 rfl (by decide) _ t _ rfl (H1.out.alloc _) ⟨w2.heap.size, 0, none⟩ 1 1 [.int .u64 p] rfl rfl (one_newT2 _ _ _) (by simp [Value.oneCell']) (by omega) (by unfold maxLen; omega) (by omega) (by simp; omega) _ rfl ?_; intro gg cc w3 hown hgrow hat _; have H2 := Lib.hid hown; have C3 := Lib.hid (C2.out.grown (grown_trans2 hgrow) S2 (fun j e => (H1.out.lt j e).1)); have B3 := Lib.hid (B2.out.grown (grown_trans2 hgrow) (by omega) (fun j e => Nat.le_trans hsW (H1.out.lt j e).1)); have S3 := C3.out.size; clear hown hgrow hat)
                    | (at_builtin; refine wpList_app rfl _ _ 29 rfl wr.heap.size 43 i0 .u64 8 Try.underlying29 hi hz0 hz1 hz2 _ (t + 1) _ rfl H2.out _ 0 _ [] rfl (HSD.out _ C3.out _) (by unfold maxLen; omega) (by omega) S3 ?_; intro v4 w4 hown hgrow _; have H3 := Lib.hid hown; have B4 := Lib.hid (B3.out.grown hgrow (by omega) (fun j e => Nat.le_trans hsW (H2.out.lt j e).1)); clear hown hgrow))
                  go_roundw
                  case rel =>
                    refine ⟨i + 1, by omega, by go_num, ?_, B4.out⟩
                    rw [HS.out]
                    exact ownsRow_base (kids_row0 HNK.out (by omega) HPL.out H3.out) hsW
                  case measure => simp [intOf]; omega
                · have hck3 : ¬ (ck : Int) = (t : Int) := by omega
                  have HPL := Lib.hid hpl
                  have HSA := Lib.hid (slk_take (HSK.out _ HBW.out) (show t ≤ t by omega))
                  have HN0 := Lib.hid (World.ownsRow_nil wr wr.heap.size 43 1)
                  have HLE := Lib.hid (Nat.le_refl wr.heap.size)
                  have htc : (t : Int) ≤ (ck : Int) := by omega
                  have hsW : W.heap.size ≤ wr.heap.size := Nat.le_trans HSZ.out HBW.out.size
                  have HSD := Lib.hid (fun (W' : World) (hw : Below wr.heap.size wr W') => fun (a : Option Addr) => slk_none (q := .u64) (a := a) W')
                  have HB1 := Lib.hid (bel_step HBr.out HBW.out)
                  clear hpl
                  go_wp2_with (first
                    | (at_builtin; refine wpList_app rfl _ _ 29 rfl wr.heap.size 43 i0 .u64 8 Try.underlying29 hi hz0 hz1 hz2 (.slice none 0 0) 0 [] rfl HN0.out _ t ck (K.take t) rfl HSA.out (by unfold maxLen; omega) (by omega) HLE.out ?_; intro v2 w2 hown hgrow _; rw [Nat.zero_add, List.nil_append] at hown; have H1 := Lib.hid hown; have S2 := hgrow.size; have C2 := Lib.hid ((Below.refl wr.heap.size wr).grown hgrow (Nat.le_refl _) (fun j e => by cases e)); have B2 := Lib.hid (HB1.out.grown hgrow hsW (fun j e => by cases e)); clear hown hgrow)
                    | (at_builtin; refine wpList_append_lies _ rfl _ _ 29 rfl wr.heap.size 43 i0 (.int .u64 0) 1 8 Try.underlying29 hi hz0 hz1 hz2 rfl (by decide) _ t _ rfl (H1.out.alloc _) ⟨w2.heap.size, 0, none⟩ 1 1 [.int .u64 p] rfl rfl (one_newT2 _ _ _) (by simp [Value.oneCell']) (by omega) (by unfold maxLen; omega) (by omega) (by simp; omega) _ rfl ?_; intro gg cc w3 hown hgrow hat _; have H2 := Lib.hid hown; have C3 := Lib.hid (C2.out.grown (grown_trans2 hgrow) S2 (fun j e => (H1.out.lt j e).1)); have B3 := Lib.hid (B2.out.grown (grown_trans2 hgrow) (by omega) (fun j e => Nat.le_trans hsW (H1.out.lt j e).1)); have S3 := C3.out.size; clear hown hgrow hat)
                    | (at_builtin; refine wpList_app rfl _ _ 29 rfl wr.heap.size 43 i0 .u64 8 Try.underlying29 hi hz0 hz1 hz2 _ (t + 1) _ rfl H2.out _ 0 _ [] rfl (HSD.out _ C3.out _) (by unfold maxLen; omega) (by omega) S3 ?_; intro v4 w4 hown hgrow _; have H3 := Lib.hid hown; have B4 := Lib.hid (B3.out.grown hgrow (by omega) (fun j e => Nat.le_trans hsW (H2.out.lt j e).1)); clear hown hgrow))
                  go_roundw
                  case rel =>
                    refine ⟨i + 1, by omega, by go_num, ?_, B4.out⟩
                    rw [HS.out]
                    exact ownsRow_base (kids_row0 HNK.out (by omega) HPL.out H3.out) hsW
                  case measure => simp [intOf]; omega
      · have hs := HSU.out
        rw [if_neg hc] at hs
        have HS := Lib.hid hs
        clear hs HSU
        by_cases hyk : y = k
        · have hneg : k < 0 := by omega
          have e0 : (y != k) = false := by simp [hyk]
          clear hc
          go_wp2_with (go_at_call 12; refine HPa.out.mono ?_; rintro e w9 ⟨rfl, hb9⟩; have HB9 := Lib.hid hb9; clear hb9)
          go_roundw
          case rel =>
            refine ⟨i + 1, by omega, by go_num, ?_, bel_step HBr.out HB9.out⟩
            rw [HS.out, HNK.out]
            exact own_of_block HROW.out fun g hg => HB9.out.block g (HROW.out.lt g hg).2
          case measure => simp [intOf]; omega
        · have e0 : (y != k) = true := by simpa using hyk
          clear hc
          go_wp2_with (go_at_call 12; refine HPa.out.mono ?_; rintro e w9 ⟨rfl, hb9⟩; have HB9 := Lib.hid hb9; clear hb9)
          go_roundw
          case rel =>
            refine ⟨i + 1, by omega, by go_num, ?_, bel_step HBr.out HB9.out⟩
            rw [HS.out, HNK.out]
            exact own_of_block HROW.out fun g hg => HB9.out.block g (HROW.out.lt g hg).2
          case measure => simp [intOf]; omega
    · obtain rfl : i = ln := by omega
      have hltI : ¬ (i : Int) < (i : Int) := by omega
      clear hrow hb
      go_wp2
      go_ret
      exact ⟨_, rfl, ownsRow_base HROW.out HB.out.size, bel_step HB.out HBr.out⟩
end Go.Proofs.Ytaechkdmijgfiaa

/- WordsOwn: a row of the set ends at its own end, told in the row of a longer one alike. The walk of the law. No condition. -/
import Derived.Test.YtpkikhoicobmcaaZWdP
namespace Go.Proofs.Ytpkikhoicobmcaa
open Go.RowKit
set_option linter.unusedVariables false
open Tr Au Wd
theorem any_succ {e : List Int} {m : Nat} (h : m < e.length) (j : Int) : (decide (j ∈ e.take m) || (e.getD m 0 == j)) = decide (j ∈ e.take (m + 1)) := by
  have hm : j ∈ e.take (m + 1) ↔ j ∈ e.take m ∨ j = e[m] := by rw [List.take_succ_eq_append_getElem h, List.mem_append, List.mem_singleton]
  rw [gD h, show decide (j ∈ e.take (m + 1)) = decide (j ∈ e.take m ∨ j = e[m]) from decide_eq_decide.2 hm]
  by_cases h2 : e[m] = j
  · rw [decide_eq_true (Or.inr h2.symm), h2, beq_self_eq_true, Bool.or_true]
  · rw [beq_false_of_ne h2, Bool.or_false, decide_eq_decide]
    exact ⟨.inl, fun h => h.resolve_right fun e => h2 e.symm⟩
theorem own_fin {S : LL} {i : Nat} (hi : i < S.length) (X : List Int) : (i : Int) ∈ fin S (X ++ S.getD i []) := mem_fin.2 ⟨i, rfl, hi, List.suffix_append _ _⟩
theorem own_lab {S : LL} (hS : Ok S) {i : Nat} (hi : i < S.length) (X : List Int) : labV S (X ++ S.getD i []) ((S.getD i []).length : Int) = (i : Int) := by
  have e : lastK (S.getD i []).length (X ++ S.getD i []) = S.getD i [] := by
    unfold lastK
    rw [List.length_append, show X.length + (S.getD i []).length - (S.getD i []).length = X.length by omega, List.drop_append, List.drop_length, Nat.sub_self]
    rfl
  rw [lab_hit (by rw [e]), e]
  exact findV_self hS.nd hi
theorem own_under {F : Nat → Prop} {w w' : World} {B n : Nat} {v : Value} {l : List Int} (hl : l.length = n) (h : w'.ownsRow B 51 1 v n (l.map (Value.int .u64))) (hF : ∀ g, F g → g < B) : ∃ a c, v = .slice a n c ∧ n ≤ c ∧ c ≤ 9223372036854775807 ∧ ∀ w'', Sep F w' w'' → SlK .u64 w'' a n l := by
  obtain ⟨a, c, rfl, hk, hc⟩ := ownK_row hl h
  have hc9 : c ≤ 9223372036854775807 := by
    rcases h.2 with ⟨e, _⟩ | ⟨_, _, _, e, _, _, _, hm2, _⟩
    · injection e with _ _ e; omega
    · injection e with _ _ e; unfold maxLen at hm2; omega
  refine ⟨a, c, rfl, hc, hc9, fun w'' hs => ⟨hl, ?_⟩⟩
  rcases hk with e | ⟨g, rfl, h1, h2, h3, _⟩
  · left; rw [← hl, e]; rfl
  · right
    exact ⟨g, 0, rfl, fun i hi => hs.cell (fun e => by have := hF g e; omega) (by simpa using h3 i (by omega))⟩
set_option maxRecDepth 100000 in
set_option maxHeartbeats 8000000 in
theorem wordsOwn_walk (a0 : Option Addr) (len0 cap0 : Nat) (a1 : Bool) (a2 : Option Addr) (len2 cap2 : Nat) (z2 : List Int) (w : World) (w0 : IsRows w a0 len0 cap0) (w2 : IsRow .u64 w a2 len2 cap2 z2) :
    Calls Try.prog 8 #[.slice a0 len0 cap0, .bool a1, .slice a2 len2 cap2] w fun e w' => e = .returned (.bool true) ∧ Below w.heap.size w w' := by
  obtain ⟨A, N, C, Z, hat⟩ := isrows_at w0
  obtain ⟨S, _, hok, hl8, hd5, hB⟩ := begin14_use (cap := cap0) hat (isrows_len w0) a1
  have HBG := Lib.hid hB
  unfold BegU at HBG
  have HOK := Lib.hid hok
  have HD := Lib.hid hd5
  have HPOS := Lib.hid (ok_pos hok)
  obtain ⟨sn, hsn⟩ : ∃ sn, S.length = sn := ⟨_, rfl⟩
  have HSN := Lib.hid hsn
  rw [hsn] at HBG hl8
  have HLV := Lib.hid (fun W => lives14_any W)
  obtain ⟨X, n, hXn, hn6, hrow⟩ := row14 w2 6 (by omega)
  have HROW := Lib.hid hrow
  have HXN := Lib.hid hXn
  obtain ⟨i0, hi, hz0, hz1, hz2⟩ := info_parts Try.info_pxT
  clear w0 hat hok hd5 hB hsn hrow hXn w2
  go_enter Try.func8, Try.ntmps8
  go_upto_region 4 with (go_at_call 9; refine HBG.out.mono ?_; rintro e w1 ⟨B, sb, tb, nb, nc, mb, rv, ra, rc, vs, rfl, hX, hrv, hlo, hb⟩; have HX := Lib.hid hX; have HRV := Lib.hid hrv; have HLO := Lib.hid hlo; have HB := Lib.hid hb; clear hX hrv hlo hb)
  obtain ⟨F, hF⟩ : ∃ F : Nat → Prop, Fw sb tb nb mb (pathsOf S).length rv = F := ⟨_, rfl⟩
  have HF := Lib.hid hF
  rw [hF] at HRV
  have HFLT : Hid (∀ g, F g → B ≤ g ∧ g < w1.heap.size) := Lib.hid (fun g hg => by rw [← hF] at hg; exact HX.out.x.lt hg)
  have HFS : Hid (F sb) := Lib.hid (by rw [← hF]; exact .inr (.inl rfl))
  clear hF
  go_wp2_with fail
  go_loopw [9] (fun s9 wr => ∃ (i : Nat) (av : Value), i ≤ sn ∧ s9 = .int .i64 (i : Int) ∧ WsA wr B sb tb nb nc mb rv av S ∧ Sep F w1 wr) (fun s9 _ => sn - (intOf s9).toNat)
  case atStart => exact ⟨0, _, Nat.zero_le _, rfl, HX.out, Sep.refl _ _⟩
  case round =>
    obtain ⟨i, av, hi', rfl, hws, hse⟩ := hrel
    have HWSi := Lib.hid hws
    have HSEi := Lib.hid hse
    have HBi : Hid (Below w.heap.size w wr) := Lib.hid (HB.out.trans (hse.below HB.out.size fun k hk e => by have h3 := (HFLT.out k e).1; have h4 := HLO.out; omega))
    clear hws hse
    by_cases hlt : i < sn
    · have hiI : (i : Int) < (sn : Int) := by omega
      have hi0 : (0 : Int) ≤ (i : Int) := Int.natCast_nonneg _
      have hiS : i < S.length := by rw [HSN.out]; exact hlt
      obtain ⟨br, or_, ai, ci, rfl, _, _, _, _⟩ := rv_row (HRV.out wr HSEi.out) hlt
      have HRI : Hid (∃ ai ci, (S.getD i []).length ≤ ci ∧ ∀ W, Sep F w1 W → W.cell? ⟨br, or_ + i, none⟩ = some (.slice ai (S.getD i []).length ci) ∧ SlK .u64 W ai (S.getD i []).length (S.getD i [])) := Lib.hid (by
        obtain ⟨aj, cj, hev1, hev2, hev3, hev4⟩ := rvs_ok1 HRV.out hlt
        refine ⟨aj, cj, hev2, fun W hs => ⟨?_, hev4 W hs⟩⟩
        rcases (HRV.out W hs).cells with e | ⟨b', o', e, hc⟩
        · omega
        · injection e with e; injection e with e5 e6 _
          subst e5 e6
          rw [hc i hlt, hev1])
      have hmf := own_fin hiS X
      have hlab := own_lab HOK.out hiS X
      have hp0 := HPOS.out _ (gD_mem (d := []) hiS)
      have hp5 := HD.out _ (gD_mem (d := []) hiS)
      obtain ⟨p, hp⟩ : ∃ p, S.getD i [] = p := ⟨_, rfl⟩
      rw [hp] at HRI hmf hlab hp0 hp5
      obtain ⟨pm, hpm⟩ : ∃ pm, p.length = pm := ⟨_, rfl⟩
      have HPM := Lib.hid hpm
      rw [hpm] at HRI hlab hp0 hp5
      obtain ⟨ai, ci, hpc, hri⟩ := HRI.out
      have HR := Lib.hid hri
      have HMF := Lib.hid hmf
      have HLAB := Lib.hid hlab
      have HAL : Hid ((X ++ p).length = n + pm) := Lib.hid (by rw [List.length_append, HXN.out, hpm])
      clear hri hmf hlab hp hpm HRI
      go_upto_region 9 with (first
        | (go_at_call 17; refine (HROW.out _ HBi.out).mono ?_; rintro e w2 ⟨xa, xc, rfl, hxs, hxc, hxc9, hb⟩; have HXS := Lib.hid (hxs F (fun g hg => Nat.lt_of_lt_of_le (HFLT.out g hg).2 HSEi.out.size)); have HB2 := Lib.hid hb; have hs2 := hb.size; clear hxs hb)
        | (at_builtin; refine wpList_app rfl _ _ 27 rfl wr.heap.size 51 i0 .u64 8 Try.underlying27 hi hz0 hz1 hz2 (.slice none 0 0) 0 [] rfl (World.ownsRow_nil _ _ _ _) xa n xc X rfl (HXS.out _ (Sep.refl _ _)) (by unfold maxLen; omega) (by omega) hs2 ?_; intro v5 w5 hown hgrow _; have HOWN5 := Lib.hid hown; have HB5 := Lib.hid (HB2.out.grown hgrow hs2 (fun j e => by cases e)); have hs5 := HB5.out.size; clear hown hgrow))
      have HSE5 := Lib.hid (HSEi.out.trans (sep_of HB5.out))
      have q5 := (HR.out w5 HSE5.out).1
      go_upto_region 10 with (at_builtin; refine wpList_app rfl _ _ 27 rfl wr.heap.size 51 i0 .u64 8 Try.underlying27 hi hz0 hz1 hz2 v5 (0 + n) _ rfl HOWN5.out ai pm ci p rfl (HR.out w5 HSE5.out).2 (by unfold maxLen; omega) (by omega) hs5 ?_; intro v7 w7 hown hgrow _; have HOWN7 := Lib.hid hown; have HB7 := Lib.hid (HB5.out.grown hgrow hs5 (fun j e => (HOWN5.out.lt j e).1)); clear hown hgrow)
      have hall := own_under (F := F) (w := wr) (v := v7) (n := n + pm) (l := X ++ p) HAL.out (by have h := HOWN7.out; rw [List.nil_append, Nat.zero_add, ← List.map_append] at h; exact h) (fun g hg => Nat.lt_of_lt_of_le (HFLT.out g hg).2 HSEi.out.size)
      obtain ⟨aa, ac, hv7, hac, hac9, hal⟩ := hall
      subst hv7
      have HALS := Lib.hid hal
      obtain ⟨lst, hlst⟩ : ∃ lst, n + pm = lst + 1 := ⟨n + pm - 1, by omega⟩
      have htk : (X ++ p).take (lst + 1) = X ++ p := by rw [← hlst, ← HAL.out]; exact List.take_length
      have HTK := Lib.hid htk
      obtain ⟨Y, hY⟩ : ∃ Y, X ++ p = Y := ⟨_, rfl⟩
      rw [hY] at HALS HAL HMF HLAB HTK
      obtain ⟨N, hN⟩ : ∃ N, n + pm = N := ⟨_, rfl⟩
      rw [hN] at HALS HAL hlst hac ⊢
      have hN11 : N ≤ 12 := by omega
      have hl0 : (0 : Int) ≤ (lst : Int) := Int.natCast_nonneg _
      have hlN : (lst : Int) < (N : Int) := by omega
      have hlN2 : lst < N := by omega
      have HN1 : Hid ((N : Int) - 1 = (lst : Int)) := Lib.hid (by omega)
      have hsc := wScan_any (c := ac) (HWSi.out.later HB7.out) HOK.out (by rw [HSN.out]; omega) HD.out (fun w' hs => HALS.out w' (hs.mono fun g e => by rw [e]; exact HFS.out)) (by omega)
      unfold ScanR at hsc
      have HSCN := Lib.hid hsc
      have HFL := Lib.hid (fin_len8 (q := Y) (by rw [HSN.out]; exact hl8))
      clear hal hsc htk hY hN q5 hlst
      go_wp2_with fail
      refine HSCN.out.mono ?_
      rintro e w9 ⟨gl, av9, rfl, hsa, hws9, hs9⟩
      have HSA := Lib.hid hsa
      have HWS9 := Lib.hid hws9
      have HS9 : Hid (Sep F w7 w9) := Lib.hid (hs9.mono fun g e => by rw [e]; exact HFS.out)
      have HSE9 : Hid (Sep F w1 w9) := Lib.hid ((HSEi.out.trans (sep_of HB7.out)).trans HS9.out)
      have q9 := (HR.out w9 HSE9.out).1
      have hla := wLabel_any (c := ac) (W := (pm : Int)) hws9 HOK.out (by rw [HSN.out]; omega) HD.out (fun w' hs => HALS.out w' (HS9.out.trans (hs.mono fun g e => by rw [e]; exact HFS.out))) hN11 (by omega)
      unfold LabR at hla
      have HLA := Lib.hid hla
      clear hsa hws9 hs9 hla
      go_wp2_with fail
      refine HLA.out.mono ?_
      rintro e w10 ⟨gb, av10, rfl, hlb, hws10, hs10⟩
      have HWS10 := Lib.hid hws10
      have HSE10 : Hid (Sep F w1 w10) := Lib.hid (HSE9.out.trans (hs10.mono fun g e => by rw [e]; exact HFS.out))
      have hb1 := hlb w10 (Sep.refl _ _) lst hlN2
      rw [HTK.out, HLAB.out] at hb1
      obtain ⟨pa, pc, e1, e2⟩ := HSA.out w10 hs10 lst hlN2
      rw [HTK.out] at e1 e2
      have HFLb := HFL.out
      obtain ⟨E, hE⟩ : ∃ E, fin S Y = E := ⟨_, rfl⟩
      rw [hE] at e1 e2 HMF HFLb
      obtain ⟨en, hen⟩ : ∃ en, E.length = en := ⟨_, rfl⟩
      have HEN := Lib.hid hen
      rw [hen] at e1 e2 HFLb
      have HE2 := Lib.hid e2
      have HB1 := Lib.hid hb1
      have HE1 := Lib.hid e1
      clear hlb hws10 hs10 q9 hE hen e2 HFL hb1 e1
      have hN1 := HN1.out
      go_wp2_with fail
      go_loopw [13, 14] (fun s13 s14 wz => ∃ m : Nat, m ≤ en ∧ s14 = .int .i64 (m : Int) ∧ s13 = .bool (decide ((i : Int) ∈ E.take m)) ∧ wz = w10) (fun _ s14 _ => en - (intOf s14).toNat)
      case atStart => exact ⟨0, Nat.zero_le _, rfl, by simp, rfl⟩
      case round =>
        obtain ⟨m, hm, rfl, rfl, hwz⟩ := hrel
        subst hwz
        have c1 := HE1.out
        by_cases hmt : m < en
        · have hmI : (m : Int) < (en : Int) := by omega
          have hm0 : (0 : Int) ≤ (m : Int) := Int.natCast_nonneg _
          obtain ⟨b, o, rfl, hc⟩ := slk_at HE2.out (by omega)
          have hck := hc m hmt
          have hsu := any_succ (e := E) (m := m) (by rw [HEN.out]; exact hmt) (i : Int)
          obtain ⟨y, hy⟩ : ∃ y, E.getD m 0 = y := ⟨_, rfl⟩
          rw [hy] at hck hsu
          obtain ⟨t, ht⟩ : ∃ t, decide ((i : Int) ∈ E.take m) = t := ⟨_, rfl⟩
          rw [ht] at hsu ⊢
          have HSU := Lib.hid hsu
          clear hc hy hsu ht
          cases t with
          | true =>
            go_wp2_with fail
            go_roundw
            case rel => exact ⟨m + 1, by omega, by go_num, by rw [← HSU.out]; rfl, by trivial⟩
            case measure => simp [intOf]; omega
          | false =>
            go_wp2_with fail
            go_roundw
            case rel => exact ⟨m + 1, by omega, by go_num, by rw [← HSU.out, Bool.false_or], by trivial⟩
            case measure => simp [intOf]; omega
        · obtain rfl : m = en := by omega
          have hmI : ¬ (m : Int) < (m : Int) := by omega
          have hdt : decide ((i : Int) ∈ E.take m) = true := decide_eq_true (by rw [← HEN.out, List.take_length]; exact HMF.out)
          rw [hdt]
          have c2 := HB1.out
          have hii : ((i : Int) != (i : Int)) = false := by simp
          clear hdt
          go_wp2_with fail
          go_roundw
          case rel => exact ⟨i + 1, av10, by omega, by go_num, HWS10.out, HSE10.out⟩
          case measure => simp [intOf]; omega
    · obtain rfl : i = sn := by omega
      have hiI : ¬ (i : Int) < (i : Int) := by omega
      go_wp2_with fail
      refine (HLV.out _).mono ?_
      rintro e w9 ⟨rfl, hb9⟩
      have HB9 := Lib.hid hb9
      clear hb9
      go_wp2_with fail
      go_ret
      exact ⟨rfl, bel_step HBi.out HB9.out⟩
end Go.Proofs.Ytpkikhoicobmcaa

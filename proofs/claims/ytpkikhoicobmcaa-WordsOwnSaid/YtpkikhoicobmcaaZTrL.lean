/- A word put into a tree. Condition: the tree is of few nodes, the word short. -/
import Derived.Test.YtpkikhoicobmcaaZTrK
import Derived.Test.YtpkikhoicobmcaaZgAA
namespace Go.Proofs.Ytpkikhoicobmcaa
open Go.RowKit
set_option linter.unusedVariables false
open Tr
theorem Turn.below {w w' : World} {F : Nat → Prop} (h : Below w.heap.size w w') : Turn w F w' F := ⟨⟨h.os, h.tape, h.output, h.size, fun k hk _ => h.block k hk⟩, fun g hg => .inl hg⟩
theorem put_nil {w : World} {B tb nb nc : Nat} {rv : Nat → Value} {L W : LL} (h : TrP w B tb nb nc rv L W) (hI : Inv L) (a : Option Addr) (c : Nat) :
    Calls Try.prog 40 #[.pointer (some ⟨tb, 0, none⟩), .slice a 0 c] w fun e w' => e = .returned (.tuple #[.int .i64 (-1), .int .i64 1]) ∧ Below w.heap.size w w' := by
  have HW := Lib.hid (walk_tr (l := []) (c := c) h hI (show SlK .u64 w a 0 [] from ⟨rfl, .inl rfl⟩) (by omega))
  obtain ⟨x, hx⟩ : ∃ x, walkN L [] = x := ⟨_, rfl⟩
  obtain ⟨y, hy⟩ : ∃ y, known L [] = y := ⟨_, rfl⟩
  rw [hx, hy] at HW
  clear h hI hx hy
  go_enter Try.func40, Try.ntmps40
  go_wp2_with (go_at_call 39; refine HW.out.mono ?_; rintro e w1 ⟨rfl, hb⟩; have HB := Lib.hid hb; clear hb)
  go_ret2
  exact ⟨rfl, HB.out⟩
/-- how a tree's data turn where a word's end is told -/
theorem put_done {w' : World} {B tb nb nc : Nat} {rv : Nat → Value} {L W : LL} {l : List Int} {n : Nat} (hn : n < L.length) (hfn : findV L l = (n : Int))
    (h : TrX w' B tb nb nc L.length (fd L) rv (upd (upd (data L W) 0 (endsV L W ++ [(n : Int)])) (2 * n + 2) (wordsV L W n ++ [(W.length : Int)]))) : TrP w' B tb nb nc rv L (W ++ [l]) := by
  refine TrX.congr h (fun k hk => rfl) (fun i hi => ?_)
  have hcase : i = 0 ∨ (∃ k, i = 2 * k + 1) ∨ (∃ k, i = 2 * k + 2) := by
    rcases Nat.eq_zero_or_pos i with h0 | h0
    · exact .inl h0
    · rcases Nat.mod_two_eq_zero_or_one i with h2 | h2
      · exact .inr (.inr ⟨i / 2 - 1, by omega⟩)
      · exact .inr (.inl ⟨i / 2, by omega⟩)
  rcases hcase with rfl | ⟨k, rfl⟩ | ⟨k, rfl⟩
  · rw [upd_ne _ _ (by omega), upd_at, data_ends]
    unfold endsV
    rw [List.map_append, List.map_singleton, hfn]
  · rw [upd_ne _ _ (by omega), upd_ne _ _ (by omega), data_kids, data_kids]
  · rw [data_words, wordsV_add]
    by_cases e : k = n
    · subst e; rw [upd_at, if_pos hfn]
    · rw [upd_ne _ _ (by omega), upd_ne _ _ (by omega), data_words, if_neg (by omega)]
theorem put_grown {W w7 : World} {o : Obj} {v u : Value} (hv : v.ownBlock = u.ownBlock) (h : (W.alloc o).drew.grownBy w7 u.ownBlock) : W.grownBy w7 v.ownBlock := by
  rw [hv]; exact grown_ad h
theorem put_at {v u : Value} {gh H k m c : Nat} (hv : v.ownBlock = u.ownBlock) (h : u.ownBlock = some gh ∨ gh = H) (hk : k ≤ H) : (Value.slice (some ⟨gh, 0, none⟩) m c).ownBlock = v.ownBlock ∨ ∃ g, (Value.slice (some ⟨gh, 0, none⟩) m c).ownBlock = some g ∧ k ≤ g := by
  rcases h with e | e
  · left; rw [hv, e]; rfl
  · right; exact ⟨gh, rfl, by omega⟩
theorem ints_len {w : World} {B : Nat} {e : TypeId} {v : Value} {n : Nat} {zs : List Int} {q : IntKind} (h : w.ownsRow B e 1 v n (zs.map (Value.int q))) : zs.length = n := by
  have := h.1; rw [List.length_map] at this; omega
theorem one_newT (w : World) (t : TypeId) (v : Value) : ∀ j u, [v][j]? = some u → (w.alloc (.cells #[v] t)).cell? ((⟨w.heap.size, 0, none⟩ : Addr).add j) = some u := by
  intro j u h
  have hj : j < 1 := by have := (List.getElem?_eq_some_iff.1 h).1; simpa using this
  obtain rfl : j = 0 := by omega
  simp at h; subst h; simp [go_sem]
set_option maxRecDepth 100000 in
set_option maxHeartbeats 4000000 in
theorem put_tr {w : World} {B tb nb nc : Nat} {rv : Nat → Value} {L W : LL} (h : TrP w B tb nb nc rv L W) (hI : Iw L W) {b o m c : Nat} {l : List Int} (hs : ∀ w', Sep (Fp tb nb L.length rv) w w' → SlK .u64 w' (some ⟨b, o, none⟩) m l) (hm : 1 ≤ m) (hm5 : m ≤ 100) (hmc : m ≤ c) (hc9 : c ≤ 9223372036854775807) (hlen : L.length ≤ 900) (hdep : ∀ x ∈ L, x.length ≤ 900) (hwl : W.length ≤ 1000) :
    Calls Try.prog 40 #[.pointer (some ⟨tb, 0, none⟩), .slice (some ⟨b, o, none⟩) m c] w fun e w' => e = .returned (.tuple #[.int .i64 W.length, .int .i64 0]) ∧ ∃ nb' nc' rv', TrP w' B tb nb' nc' rv' (putL L l) (W ++ [l]) ∧ Turn w (Fp tb nb L.length rv) w' (Fp tb nb' (putL L l).length rv') := by
  have hs0 := hs w (Sep.refl _ _)
  have hlm : l.length = m := hs0.1
  have hBl : B ≤ tb ∧ tb < w.heap.size := ⟨h.low, ((TrX.lt h (.inl rfl)).2)⟩
  have HW := Lib.hid (walk_tr (c := c) h hI.inv hs0 (by omega))
  have HS := Lib.hid hs
  have HI := Lib.hid hI
  have HT := Lib.hid h
  have HDep := Lib.hid hdep
  have HLM := Lib.hid hlm
  have hkn := known_le L l
  have hkm := known_mem hI.inv l
  have hwk : walkN L l = (idx L (l.take (known L l)) : Nat) := by unfold walkN; exact findV_mem hkm
  rw [hwk] at HW
  obtain ⟨k, hk⟩ : ∃ k, known L l = k := ⟨_, rfl⟩
  rw [hk] at HW hkn hkm
  obtain ⟨n0, hn0⟩ : ∃ n0, idx L (l.take k) = n0 := ⟨_, rfl⟩
  rw [hn0] at HW
  have HKN := Lib.hid hk
  have HN0 := Lib.hid hn0
  have HKM := Lib.hid hkm
  rw [hlm] at hkn
  obtain ⟨q, hq⟩ : ∃ q, W.length = q := ⟨_, rfl⟩
  have HQ := Lib.hid hq
  obtain ⟨N, hN⟩ : ∃ N, L.length = N := ⟨_, rfl⟩
  have HN := Lib.hid hN
  rw [hN] at hlen HS ⊢
  rw [hq] at hwl ⊢
  have hm0 : ((m : Int) == 0) = false := by rw [beq_eq_false_iff_ne]; omega
  have hkmI : (k : Int) ≤ (m : Int) := by omega
  have hk0 : (0 : Int) ≤ (k : Int) := Int.natCast_nonneg _
  have hmcI : (m : Int) ≤ (c : Int) := by omega
  clear h hI hs hs0 hlm hkm hwk hk hn0 hq hN hdep
  have hfull : decide ((1048576 : Int) < (N : Int) + (m : Int) - (k : Int)) = false := decide_eq_false (by omega)
  have hfull2 : ¬ (1048576 : Int) < (N : Int) + (m : Int) - (k : Int) := by omega
  have hck : k = c ∨ c ≠ k := by omega
  have HPL := Lib.hid (show putL L l = putK L l m by unfold putL; rw [HLM.out])
  obtain ⟨L', hL'⟩ : ∃ L', putL L l = L' := ⟨_, rfl⟩
  have HL' := Lib.hid hL'
  rw [hL'] at HPL ⊢
  obtain ⟨nz, hnz⟩ : ∃ nz, idx L' l = nz := ⟨_, rfl⟩
  have HNZ := Lib.hid hnz
  clear hL' hnz
  rcases hck with rfl | hck
  all_goals
    go_enter Try.func40, Try.ntmps40
    go_upto_block 1 with (go_at_call 39; refine HW.out.mono ?_; rintro e w1 ⟨rfl, hb⟩; have HT1 := Lib.hid (HT.out.later hb); have HTu := Lib.hid (Turn.below (F := Fp tb nb N rv) hb); have b0 := (by have := (TrX.boxes HT1.out).1; rw [HN.out] at this; exact this); clear hb)
    go_cut [6] from 37 to 45 (fun s6 wx => s6 = .int .i64 (nz : Nat) ∧ ∃ nb1 nc1 rv1, TrP wx B tb nb1 nc1 rv1 L' W ∧ Turn w (Fp tb nb N rv) wx (Fp tb nb1 L'.length rv1))
    case first =>
      clear b0
      go_wp2_with fail
      go_loopw [6, 37] (fun s6 s37 wr => ∃ (i : Nat) (nb1 nc1 : Nat) (rv1 : Nat → Value), i ≤ m - k ∧ s37 = .int .i64 i ∧ s6 = .int .i64 (idx (putK L l (k + i)) (l.take (k + i)) : Nat) ∧ TrP wr B tb nb1 nc1 rv1 (putK L l (k + i)) W ∧ Turn w (Fp tb nb N rv) wr (Fp tb nb1 (putK L l (k + i)).length rv1)) (fun _ s37 _ => (m - k) - (intOf s37).toNat)
      case atStart =>
        refine ⟨0, nb, nc, rv, Nat.zero_le _, rfl, ?_, ?_, ?_⟩
        · rw [Nat.add_zero, putK_below HI.out.inv l k (by rw [HKN.out]; exact Nat.le_refl _), HN0.out]
        · rw [Nat.add_zero, putK_below HI.out.inv l k (by rw [HKN.out]; exact Nat.le_refl _)]; exact HT1.out
        · rw [Nat.add_zero, putK_below HI.out.inv l k (by rw [HKN.out]; exact Nat.le_refl _), HN.out]; exact HTu.out
      case round =>
        obtain ⟨i, nb1, nc1, rv1, hi, rfl, rfl, hTr, hTur⟩ := hrel
        by_cases hlt : i < m - k
        · first
          | (exfalso; omega)
          | (have HTr := Lib.hid hTr
             have HTur := Lib.hid hTur
             have hltI : (i : Int) < ((m - k : Nat) : Int) := by omega
             have hi0 : (0 : Int) ≤ (i : Int) := Int.natCast_nonneg _
             have hki : k + i < l.length := by rw [HLM.out]; omega
             have hinv := putK_inv HI.out.inv l (k + i) (by omega)
             have hplen := putK_len L l (k + i)
             obtain ⟨n1, hn1⟩ : ∃ n1, idx (putK L l (k + i)) (l.take (k + i)) = n1 := ⟨_, rfl⟩
             have hn1l : n1 < (putK L l (k + i)).length := by rw [← hn1]; exact idx_lt_iff.2 hinv.2
             have hn1g : (putK L l (k + i)).getD n1 [] = l.take (k + i) := by rw [← hn1]; exact idx_at hinv.2
             have hfr := putK_fresh (L := L) (w := l) (k := k + i) (by rw [HKN.out]; omega) hki
             have habv := putK_above (L := L) (w := l) (k := k + i) (by rw [HKN.out]; omega) hki
             have hts := take_snocI hki
             have hxn : (putK L l (k + i)).getD n1 [] ++ [l.getD (k + i) 0] = l.take (k + i + 1) := by rw [hn1g]; exact hts
             have hcell : wr.cell? ⟨b, o + k + i, none⟩ = some (.int .u64 (l.getD (k + i) 0)) := by
               obtain ⟨b', o', e1, e2⟩ := slk_at (HS.out _ HTur.out.sep) (by omega)
               cases e1
               rw [Nat.add_assoc]; exact e2 (k + i) (by omega)
             have hG := grow_tr HTr.out hinv.1 (fun x hx => putK_mem.2 (.inl (HI.out.ws x hx).1)) n1 hn1l (l.getD (k + i) 0) (by rw [hxn]; exact hfr) (by rw [HN.out] at hplen; omega) (by rw [hn1g, List.length_take]; omega) (Nat.le_trans (by omega) HTur.out.sep.size)
             rw [hxn, ← habv] at hG
             have HG := Lib.hid hG
             have HNW : Hid (idx (putK L l (k + (i + 1))) (l.take (k + (i + 1))) = (putK L l (k + i)).length) := Lib.hid (by
               rw [show k + (i + 1) = k + i + 1 by omega, habv]
               have := findV_new hfr
               rw [findV_mem (by simp)] at this
               omega)
             have HLE : Hid ((putK L l (k + i + 1)).length = (putK L l (k + i)).length + 1) := Lib.hid (by rw [habv]; simp)
             rw [hn1]
             obtain ⟨p, hp⟩ : ∃ p, l.getD (k + i) 0 = p := ⟨_, rfl⟩
             rw [hp] at HG hcell
             obtain ⟨M, hM⟩ : ∃ M, (putK L l (k + i)).length = M := ⟨_, rfl⟩
             rw [hM] at HG HNW HLE
             have HTur2 : Hid (Turn w (Fp tb nb N rv) wr (Fp tb nb1 M rv1)) := Lib.hid (by rw [← hM]; exact HTur.out)
             clear hTr hTur hki hinv hplen hn1 hn1l hn1g hfr habv hts hxn hG hp hM
             go_wp2_with (go_at_call 56; refine HG.out.mono ?_; rintro e w9 ⟨rfl, nb2, nc2, rv2, hT2, hTu2⟩; have HT2 := Lib.hid hT2; have HTu2 := Lib.hid hTu2; clear hT2 hTu2)
             go_roundw
             case rel => exact ⟨i + 1, nb2, nc2, rv2, by omega, by go_num, by rw [HNW.out], HT2.out, by rw [show k + (i + 1) = k + i + 1 by omega, HLE.out]; exact HTur2.out.trans HTu2.out⟩
             case measure => simp [intOf]; omega)
        · obtain rfl : i = m - k := by omega
          have hltI : ¬ ((m - k : Nat) : Int) < ((m - k : Nat) : Int) := by omega
          have hkm2 : k + (m - k) = m := by omega
          rw [hkm2] at hTr hTur ⊢
          rw [← HPL.out] at hTr hTur ⊢
          have hlt2 : l.take m = l := List.take_of_length_le (by rw [HLM.out]; exact Nat.le_refl _)
          rw [hlt2, HNZ.out]
          have HTr := Lib.hid hTr
          have HTur := Lib.hid hTur
          clear hTr hTur hlt2
          go_wp2
          go_meet
          case rel => exact ⟨rfl, nb1, nc1, rv1, HTr.out, HTur.out⟩
    case rest =>
      obtain ⟨rfl, nb1, nc1, rv1, hT2, hTu2⟩ := hcut
      have hI2 : Iw L' W := ⟨by rw [← HL'.out]; exact putL_inv HI.out.inv l, fun x hx => ⟨by rw [← HL'.out]; exact putL_keeps (HI.out.ws x hx).1, (HI.out.ws x hx).2⟩⟩
      have hml : l ∈ L' := by rw [← HL'.out]; exact putL_self HI.out.inv l
      have hnl : nz < L'.length := by rw [← HNZ.out]; exact idx_lt_iff.2 hml
      have hfv : findV L' l = (nz : Int) := by rw [findV_mem hml, HNZ.out]
      have HFV := Lib.hid hfv
      have HNL := Lib.hid hnl
      have HT2 := Lib.hid hT2
      have HTu2 := Lib.hid hTu2
      have hr0 := TrX.rows hT2 0 (by omega)
      have hl0 : (data L' W 0).length = q := by rw [data_ends, ← HQ.out]; simp [endsV]
      rw [hl0, data_ends] at hr0
      obtain ⟨a0, c0, e0⟩ := Tr.own_form hr0
      have hro0 : (rv1 0).ownBlock = (Value.slice a0 q c0).ownBlock := by rw [e0]
      have HRO0 := Lib.hid hro0
      obtain ⟨b0', b1⟩ := TrX.boxes hT2
      rw [e0] at b1 hr0
      have bf1 := TrX.bfr hT2 1
      have HR0 := Lib.hid hr0
      have HBs := Lib.hid (show B ≤ wc.heap.size from Nat.le_trans (by omega) hTu2.sep.size)
      obtain ⟨i1, hi1, hy0, hy1, hy2⟩ := info_parts Try.info_int
      obtain ⟨N2, hN2⟩ : ∃ N2, L'.length = N2 := ⟨_, rfl⟩
      have HN2 := Lib.hid hN2
      rw [hN2] at b0'
      have b1a := cell_later (box1T wc (.cells #[.int .i64 (nz : Int)] 3)) b1
      have b0a := cell_later (box1T wc (.cells #[.int .i64 (nz : Int)] 3)) b0'
      clear hI2 hml hnl hfv hT2 hTu2 hr0 hl0 e0 hro0 hN2 b0
      go_upto_region 13 with (at_builtin; refine wpList_append_lies _ rfl _ _ 31 rfl B 3 i1 (.int .i64 0) 1 8 Try.underlying31 hi1 hy0 hy1 hy2 rfl (by decide) (.slice a0 q c0) q _ rfl (HR0.out.alloc _) ⟨wc.heap.size, 0, none⟩ 1 1 [.int .i64 (nz : Int)] rfl rfl (one_newT _ _ _) (by simp [Value.oneCell']) (by omega) (by unfold maxLen; omega) (by omega) (by have := HBs.out; simp; omega) _ rfl ?_; intro gg cc w5 hown hgrow hat _; have hg5 : wc.grownBy w5 (rv1 0).ownBlock := (by rw [HRO0.out]; exact grown_trans' (World.grownBy_alloc wc _ _) hgrow); have hst := TrX.still HT2.out (by omega) hg5; have q1 := (hst ⟨tb, 1, none⟩ (.inr rfl)).1.trans b1; have qf := (hst ⟨tb, 1, none⟩ (.inr rfl)).2.trans bf1; have HOWN := Lib.hid hown; have HG5 := Lib.hid hg5; have HAT := Lib.hid hat; clear hown hgrow hat hg5 hst)
      have hT3 : TrX (w5.setCell ⟨tb, 1, none⟩ (.slice (some ⟨gg, 0, none⟩) (q + 1) cc)) B tb nb1 nc1 L'.length (fd L') (upd rv1 0 (.slice (some ⟨gg, 0, none⟩) (q + 1) cc)) (upd (data L' W) 0 (endsV L' W ++ [(nz : Int)])) :=
        TrX.push HT2.out (by omega) (by
          have h := HOWN.out
          have he : (endsV L' W ++ [(nz : Int)]).length = q + 1 := by rw [List.length_append, List.length_singleton, ← HQ.out]; simp [endsV]
          rw [he, List.map_append]; exact h) HG5.out (by
          rcases HAT.out with e | e
          · left; rw [HRO0.out]; exact e.symm
          · right; exact ⟨gg, rfl, by rw [e]; simp⟩) _ rfl
      have hTu3 : Turn wc (Fp tb nb1 L'.length rv1) (w5.setCell ⟨tb, 1, none⟩ (.slice (some ⟨gg, 0, none⟩) (q + 1) cc)) (Fp tb nb1 L'.length (upd rv1 0 (.slice (some ⟨gg, 0, none⟩) (q + 1) cc))) :=
        TrX.push_turn HT2.out (by omega) HG5.out (by
          rcases HAT.out with e | e
          · left; rw [HRO0.out]; exact e.symm
          · right; exact ⟨gg, rfl, by rw [e]; simp⟩) _ (.inl rfl)
      obtain ⟨W13, hW13⟩ : ∃ W13, w5.setCell ⟨tb, 1, none⟩ (.slice (some ⟨gg, 0, none⟩) (q + 1) cc) = W13 := ⟨_, rfl⟩
      rw [hW13] at hT3 hTu3
      try rw [hW13]
      have HBs3 := Lib.hid (Nat.le_trans HBs.out hTu3.sep.size)
      have HTu3 := Lib.hid (HTu2.out.trans hTu3)
      have hr5 := TrX.rows hT3 (2 * nz + 2) (by have := HNL.out; omega)
      rw [upd_ne _ _ (by omega), upd_ne _ _ (by omega), data_words] at hr5
      obtain ⟨a5, c5, e5⟩ := Tr.own_form hr5
      have hro5 : (upd rv1 0 (.slice (some ⟨gg, 0, none⟩) (q + 1) cc) (2 * nz + 2)).ownBlock = (Value.slice a5 (wordsV L' W nz).length c5).ownBlock := by rw [upd_ne _ _ (by omega), e5]
      have HRO5 := Lib.hid hro5
      have hc4 := (TrX.cells hT3 HNL.out).2.2.2.2
      rw [upd_ne _ _ (by omega), e5] at hc4
      rw [e5] at hr5
      have hwl5 : (wordsV L' W nz).length ≤ q := by rw [← HQ.out]; exact wordsV_len _ _ _
      obtain ⟨ws, hws⟩ : ∃ ws, wordsV L' W nz = ws := ⟨_, rfl⟩
      rw [hws] at hr5 hc4 hwl5 HRO5
      obtain ⟨mw, hmw⟩ : ∃ mw, ws.length = mw := ⟨_, rfl⟩
      rw [hmw] at hr5 hc4 hwl5 HRO5
      have HMW := Lib.hid hmw
      have HWS := Lib.hid hws
      have HR5 := Lib.hid hr5
      have bx := (TrX.boxes hT3).1
      rw [HN2.out] at bx
      have f4 := TrX.fr hT3 (nz * 5 + 4)
      have HT3 := Lib.hid hT3
      have bxa := cell_later (box1T W13 (.cells #[.int .i64 (q : Int)] 3)) bx
      have hc4a := cell_later (box1T W13 (.cells #[.int .i64 (q : Int)] 3)) hc4
      have hn2 : nz < N2 := by rw [← HN2.out]; exact HNL.out
      have hn2I : (nz : Int) < (N2 : Int) := by omega
      have hn2z : (0 : Int) ≤ (nz : Int) := Int.natCast_nonneg _
      have hN29 : N2 ≤ 9223372036854775807 := by rw [← HN2.out]; exact TrP.len9 HT2.out
      clear hT3 hTu3 hW13 hr5 hro5 e5 hws hmw b0' b1 bf1 b1a b0a q1 qf
      go_region_law (refine step_append_lies _ rfl _ _ 31 rfl B 3 i1 (.int .i64 0) 1 8 Try.underlying31 hi1 hy0 hy1 hy2 rfl (by decide) (.slice a5 mw c5) mw _ rfl (HR5.out.alloc _) ⟨W13.heap.size, 0, none⟩ 1 1 [.int .i64 (q : Int)] rfl rfl (one_newT _ _ _) (by simp [Value.oneCell']) (by omega) (by unfold maxLen; omega) (by omega) (by have := HBs3.out; simp; omega) _ rfl ?_; intro gh ch w7 hown hgrow hat _; have hg7 := put_grown (W := W13) (o := .cells #[.int .i64 (q : Int)] 3) HRO5.out hgrow; have hst := TrX.still HT3.out (by rw [HN2.out]; omega) hg7; have q4 := (hst ⟨nb1, nz * 5 + 4, none⟩ (.inl rfl)).1.trans hc4; have qf4 := (hst ⟨nb1, nz * 5 + 4, none⟩ (.inl rfl)).2.trans f4; have q5 := (hst ⟨tb, 0, none⟩ (.inr rfl)).1.trans bx; have HOWN7 := Lib.hid hown; have HG7 := Lib.hid hg7; have HAT7 := Lib.hid (put_at (k := W13.heap.size) (m := mw + 1) (c := ch) HRO5.out hat (by simp)); clear hown hgrow hat hg7 hst)
      all_goals
        go_wp2_with fail
        go_ret2
        refine ⟨rfl, nb1, nc1, _, put_done HNL.out HFV.out (TrX.push HT3.out (by have := HNL.out; omega) (v' := .slice (some ⟨gh, 0, none⟩) (mw + 1) ch) (ys := wordsV L' W nz ++ [(W.length : Int)]) ?_ HG7.out HAT7.out _ (by rw [if_neg (by omega), at5_words])), HTu3.out.trans (TrX.push_turn HT3.out (by have := HNL.out; omega) HG7.out HAT7.out _ (.inr rfl))⟩
        rw [HWS.out, HQ.out, List.length_append, List.length_singleton, HMW.out, List.map_append]
        exact HOWN7.out
end Go.Proofs.Ytpkikhoicobmcaa

/- The list with a matrix in it, laid by a turn, and its place there: what turn's add comes to, over any memory. Condition: the matrix may be, and be laid so; the list is short, and the call's own. -/
import Derived.Test.YteonfgphihacgaaTurP
namespace Go.Proofs.Yteonfgphihacgaa
open Go.RowKit
set_option linter.unusedVariables false

theorem ret_vi {v v' : Value} {a b : Int} (h : v = v') (k : a = b) : Ending.returned (.tuple #[v, .int .i64 a]) = .returned (.tuple #[v', .int .i64 b]) := by rw [h, k]
set_option maxRecDepth 100000 in
set_option maxHeartbeats 8000000 in
/-- it can be laid so: what Lay comes to is handed over -/
theorem add_yes (es : List Ent) (n base : Nat) (v : Value) (W H g P Q : Nat) (T : List Int) (a : Option Addr) (c : Nat) (hn : n ≤ 16777216) (hT : T.length = n) (hk8 : es.length ≤ 8) (w : World) (hbase : base ≤ w.heap.size)
    (hrow : w.ownsRow base 54 3 v es.length (ents n es)) (hl : Lie n w es)
    (hLay : ∀ w2, Below w.heap.size w w2 → Calls Try.prog 82 #[.agg #[.int .i64 W, .int .i64 H, .slice a n c], .int .i64 g] w2 fun e w' => ∃ gb, e = .returned (.tuple #[.agg #[.int .i64 P, .int .i64 Q, .slice (some ⟨gb, 0, none⟩) n n], .int .i64 0]) ∧ OwnG w2.heap.size w' gb T ∧ Below w2.heap.size w2 w') :
    Calls Try.prog 80 #[v, .agg #[.int .i64 W, .int .i64 H, .slice a n c], .int .i64 g] w fun e w' =>
      ∃ (v' : Value) (es' : List Ent), e = .returned (.tuple #[v', .int .i64 (if Tu.placeK (es.map Ent.key) (P, Q, T) < 0 then (es.length : Int) else Tu.placeK (es.map Ent.key) (P, Q, T))]) ∧ es'.map Ent.key = (if Tu.placeK (es.map Ent.key) (P, Q, T) < 0 then es.map Ent.key ++ [(P, Q, T)] else es.map Ent.key) ∧
        w'.ownsRow base 54 3 v' es'.length (ents n es') ∧ Lie n w' es' ∧ w.grownBy w' v.ownBlock := by
  have B := box1 w (.cells #[.int .i64 W, .int .i64 H, .slice a n c] 54)
  have HL := Lib.hid (hLay _ B)
  have HROW := Lib.hid hrow
  have HLIE := Lib.hid hl
  have HTN := Lib.hid hT
  obtain ⟨ad, cap, hv⟩ := ownsRow_val hrow
  subst hv
  obtain ⟨i0, hi, hz0, hz1, hz2⟩ := info_parts Try.info_mt
  obtain ⟨pl, hpl⟩ : ∃ pl, Tu.placeK (es.map Ent.key) (P, Q, T) = pl := ⟨_, rfl⟩
  have HPL := Lib.hid hpl
  obtain ⟨k, hk⟩ : ∃ k, es.length = k := ⟨_, rfl⟩
  have HK := Lib.hid hk
  rw [hpl, hk]
  rw [hk] at hk8 HROW
  obtain ⟨r, hr⟩ : ∃ r, (if pl < 0 then (k : Int) else pl) = r := ⟨_, rfl⟩
  obtain ⟨ks, hks⟩ : ∃ ks, (if pl < 0 then es.map Ent.key ++ [(P, Q, T)] else es.map Ent.key) = ks := ⟨_, rfl⟩
  rw [hr, hks]
  have HR := Lib.hid hr
  have HKS := Lib.hid hks
  clear hpl hLay hrow hl hT hk hr hks
  go_enter Try.func80, Try.ntmps80
  go_wp2_with fail
  refine HL.out.mono ?_
  rintro e w1 ⟨gb, rfl, oo, hb1⟩
  replace B := bel_step B hb1
  have hb := box1 w1 (.cells #[.int .i64 P, .int .i64 Q, .slice (some ⟨gb, 0, none⟩) n n] 54)
  have F := Sb.new w1 54 (.int .i64 P) (.int .i64 Q) (.slice (some ⟨gb, 0, none⟩) n n)
  have O := (OwnG.later oo hb).mono (Nat.zero_le _)
  replace B := bel_step B hb
  obtain ⟨V1, hV1⟩ : ∃ V, w1.alloc (.cells #[.int .i64 P, .int .i64 Q, .slice (some ⟨gb, 0, none⟩) n n] 54) = V := ⟨_, rfl⟩
  rw [hV1] at B F O
  have HX := Lib.hid (index_ents es n w1.heap.size gb P Q base (.slice ad k cap) T (by rw [HK.out]; omega) (by omega) V1 F (ownG_len O HTN.out) (by rw [HK.out]; exact ownsRow_later HROW.out B) (HLIE.out.later B))
  rw [HPL.out] at HX
  have HB := Lib.hid B
  have HF := Lib.hid F
  have HO := Lib.hid O
  clear B F O hb hb1 oo
  go_wp2_with fail
  refine HX.out.mono ?_
  rintro e w2 ⟨rfl, hb2⟩
  have B2 := bel_step HB.out hb2
  have HB2 := Lib.hid B2
  have F2 := HF.out.later hb2
  have O2 := HO.out.later hb2
  obtain ⟨c0, c1, c2⟩ := F2.cells
  have HF2 := Lib.hid F2
  have HO2 := Lib.hid O2
  have hsz2 : base ≤ w2.heap.size := Nat.le_trans hbase B2.size
  clear hV1 B2 F2 O2 hb2
  by_cases hneg : pl < 0
  · have hge : ¬ (0 : Int) ≤ pl := by omega
    have hr := HR.out
    have hks := HKS.out
    rw [if_pos hneg] at hr hks
    have HR2 := Lib.hid hr
    have HKS2 := Lib.hid hks
    clear hneg hr hks
    have hrow2 := ownsRow_later HROW.out HB2.out
    have hrow3 := hrow2.alloc (.cells #[.int .i64 P, .int .i64 Q, .slice (some ⟨gb, 0, none⟩) n n] 54)
    go_wp2_with (at_builtin; refine wpList_append_own _ rfl _ _ 83 rfl base 54 i0 (.agg #[.int .i64 0, .int .i64 0, .slice none 0 0]) 3 40 Try.underlying83 hi hz0 hz1 hz2 rfl (by decide) _ k (ents n es) rfl hrow3 ⟨w2.heap.size, 0, none⟩ 1 1 [.int .i64 P, .int .i64 Q, .slice (some ⟨gb, 0, none⟩) n n] rfl rfl (three_new _ _ _ _ _) (by simp [Value.oneCell']) (by unfold maxLen; omega) (by omega) (by simp; omega) ?_; intro v' w3 hown' hgrow' hnil)
    have hgr : w2.grownBy w3 (Value.slice ad k cap).ownBlock := grown_trans (box1 w2 _) hgrow'
    have hgrA : w.grownBy w3 (Value.slice ad k cap).ownBlock := grown_trans HB2.out hgr
    have hlie := Lie.grown (HLIE.out.later HB2.out) (ownsRow_later HROW.out HB2.out) hgr
    have hO3 := HO2.out.grown (ownsRow_later HROW.out HB2.out) hgr
    go_ret2
    refine ⟨v', es ++ [mkEnt P Q gb T], ret_vi rfl HR2.out, ?_, ?_, ?_, hgrA⟩
    · rw [List.map_append, ← HKS2.out]; rfl
    · rw [List.length_append, HK.out, show ents n (es ++ [mkEnt P Q gb T]) = ents n es ++ [.int .i64 P, .int .i64 Q, .slice (some ⟨gb, 0, none⟩) n n] from by unfold ents; rw [List.flatMap_append]; rfl]
      exact hown'
    · intro e he
      rcases List.mem_append.1 he with h | h
      · exact hlie e h
      · obtain rfl := List.mem_singleton.1 h
        exact ⟨hO3, HTN.out⟩
  · have hge : (0 : Int) ≤ pl := by omega
    have hr := HR.out
    have hks := HKS.out
    rw [if_neg hneg] at hr hks
    have HR2 := Lib.hid hr
    have HKS2 := Lib.hid hks
    clear hneg hr hks
    go_wp2
    go_ret2
    refine ⟨_, es, ret_vi rfl HR2.out, HKS2.out, ?_, HLIE.out.later HB2.out, grown_below HB2.out⟩
    rw [HK.out]
    exact ownsRow_later HROW.out HB2.out
end Go.Proofs.Yteonfgphihacgaa

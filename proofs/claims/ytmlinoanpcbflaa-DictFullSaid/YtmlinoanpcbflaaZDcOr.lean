/- turn's Orbit, told beside that the ways' numbers lie in blocks of the call's own; over any memory. Condition: the matrix may be; at most nine turns. -/
import Derived.Test.YtmlinoanpcbflaaZTurT
namespace Go.Proofs.Ytmlinoanpcbflaa
open Go.RowKit
set_option linter.unusedVariables false
set_option maxRecDepth 100000 in
set_option maxHeartbeats 8000000 in
/-- it can be laid so: what Lay comes to is handed over -/
theorem addB_yes (Bb : Nat) (es : List Ent) (n base : Nat) (v : Value) (W H g P Q : Nat) (T : List Int) (a : Option Addr) (c : Nat) (hn : n ≤ 16777216) (hT : T.length = n) (hk8 : es.length ≤ 8) (w : World) (hbase : base ≤ w.heap.size)
    (hrow : w.ownsRow base 34 3 v es.length (ents n es)) (hl : Lie n w es) (hBb : Bb ≤ w.heap.size) (hlb : ∀ e ∈ es, Bb ≤ e.2.2.1)
    (hLay : ∀ w2, Below w.heap.size w w2 → Calls Try.prog 66 #[.agg #[.int .i64 W, .int .i64 H, .slice a n c], .int .i64 g] w2 fun e w' => ∃ gb, e = .returned (.tuple #[.agg #[.int .i64 P, .int .i64 Q, .slice (some ⟨gb, 0, none⟩) n n], .int .i64 0]) ∧ OwnG w2.heap.size w' gb T ∧ Below w2.heap.size w2 w') :
    Calls Try.prog 53 #[v, .agg #[.int .i64 W, .int .i64 H, .slice a n c], .int .i64 g] w fun e w' =>
      ∃ (v' : Value) (es' : List Ent), e = .returned (.tuple #[v', .int .i64 (if Tu.placeK (es.map Ent.key) (P, Q, T) < 0 then (es.length : Int) else Tu.placeK (es.map Ent.key) (P, Q, T))]) ∧ es'.map Ent.key = (if Tu.placeK (es.map Ent.key) (P, Q, T) < 0 then es.map Ent.key ++ [(P, Q, T)] else es.map Ent.key) ∧
        w'.ownsRow base 34 3 v' es'.length (ents n es') ∧ Lie n w' es' ∧ (∀ e ∈ es', Bb ≤ e.2.2.1) ∧ w.grownBy w' v.ownBlock := by
  have B := box1 w (.cells #[.int .i64 W, .int .i64 H, .slice a n c] 34)
  have HL := Lib.hid (hLay _ B)
  have HROW := Lib.hid hrow
  have HLIE := Lib.hid hl
  have HTN := Lib.hid hT
  have HLB := Lib.hid hlb
  have HBb := Lib.hid hBb
  obtain ⟨ad, cap, hv⟩ := ownsRow_val hrow
  subst hv
  obtain ⟨i0, hi, hz0, hz1, hz2⟩ := info_parts Try.info_mt
  obtain ⟨pl, hpl⟩ : ∃ pl, Tu.placeK (es.map Ent.key) (P, Q, T) = pl := ⟨_, rfl⟩
  have HPL := Lib.hid hpl
  obtain ⟨k, hk⟩ : ∃ k, es.length = k := ⟨_, rfl⟩
  have HK := Lib.hid hk
  rw [hpl, hk]
  rw [hk] at hk8 HROW
  obtain ⟨r, hr⟩ : ∃ r, (if pl < 0 then (k : Int) else pl) = r := ⟨_, rfl⟩
  obtain ⟨ks, hks⟩ : ∃ ks, (if pl < 0 then es.map Ent.key ++ [(P, Q, T)] else es.map Ent.key) = ks := ⟨_, rfl⟩
  rw [hr, hks]
  have HR := Lib.hid hr
  have HKS := Lib.hid hks
  clear hpl hLay hrow hl hT hk hr hks hlb hBb
  go_enter Try.func53, Try.ntmps53
  go_wp2_with fail
  refine HL.out.mono ?_
  rintro e w1 ⟨gb, rfl, oo, hb1⟩
  have HGB : Hid (Bb ≤ gb) := Lib.hid (by have h1 := oo.1; have h2 := B.size; have h3 := HBb.out; omega)
  replace B := bel_step B hb1
  have hb := box1 w1 (.cells #[.int .i64 P, .int .i64 Q, .slice (some ⟨gb, 0, none⟩) n n] 34)
  have F := Sb.new w1 34 (.int .i64 P) (.int .i64 Q) (.slice (some ⟨gb, 0, none⟩) n n)
  have O := (OwnG.later oo hb).mono (Nat.zero_le _)
  replace B := bel_step B hb
  obtain ⟨V1, hV1⟩ : ∃ V, w1.alloc (.cells #[.int .i64 P, .int .i64 Q, .slice (some ⟨gb, 0, none⟩) n n] 34) = V := ⟨_, rfl⟩
  rw [hV1] at B F O
  have HX := Lib.hid (index_ents es n w1.heap.size gb P Q base (.slice ad k cap) T (by rw [HK.out]; omega) (by omega) V1 F (ownG_len O HTN.out) (by rw [HK.out]; exact ownsRow_later HROW.out B) (HLIE.out.later B))
  rw [HPL.out] at HX
  have HB := Lib.hid B
  have HF := Lib.hid F
  have HO := Lib.hid O
  clear B F O hb hb1 oo
  go_wp2_with fail
  refine HX.out.mono ?_
  rintro e w2 ⟨rfl, hb2⟩
  have B2 := bel_step HB.out hb2
  have HB2 := Lib.hid B2
  have F2 := HF.out.later hb2
  have O2 := HO.out.later hb2
  obtain ⟨c0, c1, c2⟩ := F2.cells
  have HF2 := Lib.hid F2
  have HO2 := Lib.hid O2
  have hsz2 : base ≤ w2.heap.size := Nat.le_trans hbase B2.size
  clear hV1 B2 F2 O2 hb2
  by_cases hneg : pl < 0
  · have hge : ¬ (0 : Int) ≤ pl := by omega
    have hr := HR.out
    have hks := HKS.out
    rw [if_pos hneg] at hr hks
    have HR2 := Lib.hid hr
    have HKS2 := Lib.hid hks
    clear hneg hr hks
    have hrow2 := ownsRow_later HROW.out HB2.out
    have hrow3 := hrow2.alloc (.cells #[.int .i64 P, .int .i64 Q, .slice (some ⟨gb, 0, none⟩) n n] 34)
    go_wp2_with (at_builtin; refine wpList_append_own _ rfl _ _ 92 rfl base 34 i0 (.agg #[.int .i64 0, .int .i64 0, .slice none 0 0]) 3 40 Try.underlying92 hi hz0 hz1 hz2 rfl (by decide) _ k (ents n es) rfl hrow3 ⟨w2.heap.size, 0, none⟩ 1 1 [.int .i64 P, .int .i64 Q, .slice (some ⟨gb, 0, none⟩) n n] rfl rfl (three_new _ _ _ _ _) (by simp [Value.oneCell']) (by unfold maxLen; omega) (by omega) (by simp; omega) ?_; intro v' w3 hown' hgrow' hnil)
    have hgr : w2.grownBy w3 (Value.slice ad k cap).ownBlock := grown_trans (box1 w2 _) hgrow'
    have hgrA : w.grownBy w3 (Value.slice ad k cap).ownBlock := grown_trans HB2.out hgr
    have hlie := Lie.grown (HLIE.out.later HB2.out) (ownsRow_later HROW.out HB2.out) hgr
    have hO3 := HO2.out.grown (ownsRow_later HROW.out HB2.out) hgr
    go_ret2
    refine ⟨v', es ++ [mkEnt P Q gb T], ret_vi rfl HR2.out, ?_, ?_, ?_, ?_, hgrA⟩
    · rw [List.map_append, ← HKS2.out]; rfl
    · rw [List.length_append, HK.out, show ents n (es ++ [mkEnt P Q gb T]) = ents n es ++ [.int .i64 P, .int .i64 Q, .slice (some ⟨gb, 0, none⟩) n n] from by unfold ents; rw [List.flatMap_append]; rfl]
      exact hown'
    · intro e he
      rcases List.mem_append.1 he with h | h
      · exact hlie e h
      · obtain rfl := List.mem_singleton.1 h
        exact ⟨hO3, HTN.out⟩
    · intro e he
      rcases List.mem_append.1 he with h | h
      · exact HLB.out e h
      · obtain rfl := List.mem_singleton.1 h
        exact HGB.out
  · have hge : (0 : Int) ≤ pl := by omega
    have hr := HR.out
    have hks := HKS.out
    rw [if_neg hneg] at hr hks
    have HR2 := Lib.hid hr
    have HKS2 := Lib.hid hks
    clear hneg hr hks
    go_wp2
    go_ret2
    refine ⟨_, es, ret_vi rfl HR2.out, HKS2.out, ?_, HLIE.out.later HB2.out, HLB.out, grown_below HB2.out⟩
    rw [HK.out]
    exact ownsRow_later HROW.out HB2.out
theorem addB_any (Bb : Nat) (es : List Ent) (n base : Nat) (v : Value) (W H g : Nat) (L : List Int) (a : Option Addr) (c : Nat) (hL : Rc.Ok W H L) (hn : W * H = n) (hc : n ≤ c) (hc2 : c ≤ 9223372036854775807) (hg : g < 8) (hk8 : es.length ≤ 8) (w : World) (hbase : base ≤ w.heap.size)
    (hrow : w.ownsRow base 34 3 v es.length (ents n es)) (hl : Lie n w es) (hBb : Bb ≤ w.heap.size) (hlb : ∀ e ∈ es, Bb ≤ e.2.2.1) (hs : SlK .u64 w a n L) :
    Calls Try.prog 53 #[v, .agg #[.int .i64 W, .int .i64 H, .slice a n c], .int .i64 g] w fun e w' =>
      ∃ (v' : Value) (es' : List Ent), e = .returned (.tuple #[v', .int .i64 (Tu.addK (es.map Ent.key) (Tu.keyOf W H L g)).2]) ∧ es'.map Ent.key = (Tu.addK (es.map Ent.key) (Tu.keyOf W H L g)).1 ∧
        w'.ownsRow base 34 3 v' es'.length (ents n es') ∧ Lie n w' es' ∧ (∀ e ∈ es', Bb ≤ e.2.2.1) ∧ w.grownBy w' v.ownBlock := by
  have hLn : L.length = n := by rw [hL.2.2.2.2.2, ← hn, Nat.mul_comm]; simp
  have hn16 : n ≤ 16777216 := by rw [← hLn]; exact ok_len hL
  unfold Tu.keyOf
  cases hsz : Rc.sized (Tu.sw g W H : Nat) (Tu.sw g H W : Nat) with
  | true =>
    rw [if_pos rfl]
    have := addB_yes Bb es n base v W H g (Tu.sw g W H) (Tu.sw g H W) (Tu.layL g W H L) a c hn16 (by rw [Tu.layL_len]; exact hn) hk8 w hbase hrow hl hBb hlb (fun w2 hb2 => by
      have h1 := turnLay_yes W H g a c L hg hL (by rw [hLn]; exact hc) hc2 hsz w2 (by rw [hLn]; exact hs.below hb2)
      rw [hLn, hn] at h1
      exact h1)
    refine this.mono fun e w' ⟨v', es', h1, h2, h3⟩ => ⟨v', es', ?_, ?_, h3⟩
    · rw [h1]; simp only [Tu.addK]; split <;> simp
    · rw [h2]; simp only [Tu.addK]; split <;> rfl
  | false =>
    rw [if_neg Bool.false_ne_true]
    have := add_no v W H g n a c w (fun w2 hb2 => turnLay_no W H g a n c hg (by have := Rc.ok_may hL; rwa [hLn] at this) (by omega) hsz w2)
    exact this.mono fun e w' ⟨h1, h2⟩ => ⟨v, es, h1, rfl, ownsRow_later hrow h2, hl.later h2, hlb, grown_below h2⟩
set_option maxRecDepth 100000 in
set_option maxHeartbeats 16000000 in
theorem orbitB_pos (W H n b1 off1 : Nat) (a : Option Addr) (c len cap : Nat) (L ts : List Int) (hL : Rc.Ok W H L) (hn : W * H = n) (hc : n ≤ c) (hc2 : c ≤ 9223372036854775807) (hlen : len ≤ 9) (hpos : 0 < len) (w : World) (hs : SlK .u64 w a n L) (hl : ts.length = len) (ht : ∀ i, i < len → w.cell? ⟨b1, off1 + i, none⟩ = some (.int .i64 (ts.getD i 0))) :
    Calls Try.prog 36 #[.agg #[.int .i64 W, .int .i64 H, .slice a n c], .slice (some ⟨b1, off1, none⟩) len cap] w fun e w' =>
      ∃ (v : Value) (es : List Ent) (bp base : Nat), e = .returned (.tuple #[v, .slice (some ⟨bp, 0, none⟩) len len]) ∧ es.map Ent.key = (Tu.orbO W H L ts).1 ∧ w'.ownsRow base 34 3 v es.length (ents n es) ∧ Lie n w' es ∧ (∀ e ∈ es, w.heap.size ≤ e.2.2.1) ∧ w.heap.size ≤ bp ∧ OwnI w' bp 3 (Tu.orbO W H L ts).2 ∧ Below w.heap.size w w' := by
  have hLn : L.length = n := by rw [hL.2.2.2.2.2, ← hn, Nat.mul_comm]; simp
  have HLn := Lib.hid hLn
  have hn16 : n ≤ 16777216 := by rw [← hLn]; exact ok_len hL
  have HOK := Lib.hid hL
  have HS := Lib.hid hs
  have HT := Lib.hid ht
  have HTL := Lib.hid hl
  have HN := Lib.hid hn
  have hmk := run_make_row' (P := Try.prog) 42 3 (.int .i64 0) 8 Try.underlying42 Try.info_in rfl .i64 .i64 len (by omega) (by omega)
  rw [made_zeros] at hmk
  obtain ⟨cs, hcs⟩ : ∃ cs, ((List.replicate len (0 : Int)).map (Value.int .i64)).toArray = cs := ⟨_, rfl⟩
  rw [hcs] at hmk
  have HCS := Lib.hid hcs
  clear hcs hL hs ht hn hl hLn
  go_enter Try.func36, Try.ntmps36
  go_wp2
  refine wp_loop_rounds 9 ?_
  rw [rounds_succ]
  go_wp2
  rw [rounds_succ]
  go_wp2
  rw [rounds_succ]
  go_wp2
  rw [rounds_succ]
  go_wp2
  rw [rounds_succ]
  go_wp2
  rw [rounds_succ]
  go_wp2
  rw [rounds_succ]
  go_wp2
  rw [rounds_succ]
  go_wp2
  rw [rounds_succ]
  go_wp2
  have X1 := (((Sb.new w 34 (.int .i64 W) (.int .i64 H) (.slice a n c)).alloc (.cells #[.int .i64 (-1), .int .i64 (-1), .int .i64 (-1), .int .i64 (-1), .int .i64 (-1), .int .i64 (-1), .int .i64 (-1), .int .i64 (-1)] 108)).alloc (.cells cs 3))
  have hk1 := heapNew (w.alloc (.cells #[.int .i64 W, .int .i64 H, .slice a n c] 34)) (.cells #[.int .i64 (-1), .int .i64 (-1), .int .i64 (-1), .int .i64 (-1), .int .i64 (-1), .int .i64 (-1), .int .i64 (-1), .int .i64 (-1)] 108)
  have K1 : OwnI (((w.alloc (.cells #[.int .i64 W, .int .i64 H, .slice a n c] 34)).alloc (.cells #[.int .i64 (-1), .int .i64 (-1), .int .i64 (-1), .int .i64 (-1), .int .i64 (-1), .int .i64 (-1), .int .i64 (-1), .int .i64 (-1)] 108)).alloc (.cells cs 3)) (w.heap.size + 1) 108 [-1, -1, -1, -1, -1, -1, -1, -1] := by
    rw [World.size_alloc] at hk1
    exact heapOld _ _ hk1
  have hp1 := heapNew ((w.alloc (.cells #[.int .i64 W, .int .i64 H, .slice a n c] 34)).alloc (.cells #[.int .i64 (-1), .int .i64 (-1), .int .i64 (-1), .int .i64 (-1), .int .i64 (-1), .int .i64 (-1), .int .i64 (-1), .int .i64 (-1)] 108)) (.cells cs 3)
  have P1 : OwnI (((w.alloc (.cells #[.int .i64 W, .int .i64 H, .slice a n c] 34)).alloc (.cells #[.int .i64 (-1), .int .i64 (-1), .int .i64 (-1), .int .i64 (-1), .int .i64 (-1), .int .i64 (-1), .int .i64 (-1), .int .i64 (-1)] 108)).alloc (.cells cs 3)) (w.heap.size + 1 + 1) 3 (List.replicate len 0) := by
    rw [World.size_alloc, World.size_alloc] at hp1
    unfold OwnI
    rw [HCS.out]
    exact hp1
  have B1 : Below w.heap.size w (((w.alloc (.cells #[.int .i64 W, .int .i64 H, .slice a n c] 34)).alloc (.cells #[.int .i64 (-1), .int .i64 (-1), .int .i64 (-1), .int .i64 (-1), .int .i64 (-1), .int .i64 (-1), .int .i64 (-1), .int .i64 (-1)] 108)).alloc (.cells cs 3)) := by go_grown
  obtain ⟨W1, hW1⟩ : ∃ W1, ((w.alloc (.cells #[.int .i64 W, .int .i64 H, .slice a n c] 34)).alloc (.cells #[.int .i64 (-1), .int .i64 (-1), .int .i64 (-1), .int .i64 (-1), .int .i64 (-1), .int .i64 (-1), .int .i64 (-1), .int .i64 (-1)] 108)).alloc (.cells cs 3) = W1 := ⟨_, rfl⟩
  have hz1 : w.heap.size + 3 ≤ W1.heap.size := by rw [← hW1]; simp
  rw [hW1] at X1 K1 P1 B1 ⊢
  have HX1 := Lib.hid X1
  have HK1 := Lib.hid K1
  have HP1 := Lib.hid P1
  have HB1 := Lib.hid B1
  clear X1 K1 P1 B1 hk1 hp1 hW1 hmk
  go_loopg [6, 24] len (fun gg s6 s24 wr => ∃ (i : Nat) (es : List Ent) (kn pl : List Int), i + gg = len ∧ s24 = .int .i64 i ∧ Below w.heap.size w wr ∧ w.heap.size + 3 ≤ wr.heap.size ∧ Sb wr w.heap.size 34 (.int .i64 W) (.int .i64 H) (.slice a n c) ∧ OwnI wr (w.heap.size + 1) 108 kn ∧ OwnI wr (w.heap.size + 1 + 1) 3 pl ∧ wr.ownsRow (w.heap.size + 3) 34 3 s6 es.length (ents n es) ∧ Lie n wr es ∧ Hid (∀ e ∈ es, w.heap.size ≤ e.2.2.1) ∧ Hid (Orb W H L ts len i es kn pl))
  case atStart => exact ⟨0, [], _, _, by omega, rfl, HB1.out, hz1, HX1.out, HK1.out, HP1.out, World.ownsRow_nil _ _ _ _, fun e he => absurd he (by simp), Lib.hid (fun e he => absurd he (by simp)), orb_start W H L ts len⟩
  case round =>
    obtain ⟨i, es, kn, pl, hi, rfl, hB, hz, hX, hK, hP, hrow, hlie, hLB, hOrb⟩ := hrel
    have HB := Lib.hid hB
    have HX := Lib.hid hX
    have HK := Lib.hid hK
    have HP := Lib.hid hP
    have HROW := Lib.hid hrow
    have HLIE := Lib.hid hlie
    clear hB hX hK hP hrow hlie
    cases gk with
    | zero =>
      have hil : i = len := by omega
      have hlt : ¬ (i : Int) < (len : Int) := by omega
      have hO := hOrb.out
      rw [hil] at hO
      obtain ⟨o1, o2, o3, o4⟩ := hO
      rw [List.take_of_length_le (by rw [HTL.out]; exact Nat.le_refl _)] at o2 o3
      rw [Nat.sub_self, List.replicate_zero, List.append_nil] at o3
      have HO2 := Lib.hid o2
      have HO3 := Lib.hid o3
      clear o1 o2 o3 o4
      go_wp2
      go_ret2
      exact ⟨_, es, _, rfl, HO2.out, ⟨_, HROW.out⟩, HLIE.out, hLB.out, by omega, by have := HP.out; rw [HO3.out] at this; exact this, HB.out⟩
    | succ gg =>
      have hil : i < len := by omega
      have hlt : (i : Int) < (len : Int) := by omega
      have hcv := cell_later HB.out (HT.out i hil)
      have hpl := orb_pl hOrb.out hil HTL.out
      have hkl := hOrb.out.1.1
      obtain ⟨gv, hgv⟩ : ∃ gv, ts.getD i 0 = gv := ⟨_, rfl⟩
      rw [hgv] at hcv
      have HGV := Lib.hid hgv
      have hpc := HP.out.cell (i := i) (by rw [hpl]; exact hil)
      have hpf := HP.out.fr i
      obtain ⟨pold, hpold⟩ : ∃ x, pl.getD i 0 = x := ⟨_, rfl⟩
      rw [hpold] at hpc
      have HPL := Lib.hid hpl
      have HKL := Lib.hid hkl
      clear hgv hpold hpl hkl
      cases hT : Tu.isT gv with
      | false =>
        have HTV := Lib.hid hT
        clear hT
        have HPn := Lib.hid (HP.out.put i (-1))
        go_wp2_with (go_at_call 30; refine (turnMay_any _ _).mono ?_; rw [HTV.out]; rintro e w9 ⟨rfl, rfl⟩)
        go_roundg gg
        case measure => omega
        case rel =>
          refine ⟨i + 1, es, kn, _, by omega, by go_num, HB.out.setCell (by simp <;> omega) _, by simp <;> omega, HX.out.set _ _ (by simp <;> omega), HK.out.set _ _ (by simp), HPn.out, ownsRow_set HROW.out (by simp) _, HLIE.out.set HP.out (by decide) _ _, hLB, ?_⟩
          refine orb_next hOrb.out hil HTL.out (p := -1) ?_ ?_ (by have := hOrb.out.2.2.2; omega)
          · rw [HGV.out]; unfold Tu.stepO; rw [HTV.out]; rfl
          · rw [hOrb.out.2.1]; exact hOrb.out.1
      | true =>
        obtain ⟨g, hg8, rfl⟩ := Tu.isT_nat hT
        have HTV := Lib.hid hT
        clear hT
        have hg0 : (0 : Int) ≤ (g : Int) := by omega
        have hg1 : (g : Int) < 8 := by omega
        have hkc := HK.out.cell (i := g) (by rw [HKL.out]; exact hg8)
        have hkf := HK.out.fr g
        obtain ⟨q, hq⟩ : ∃ q, kn.getD g 0 = q := ⟨_, rfl⟩
        rw [hq] at hkc
        have HQ := Lib.hid hq
        have HG8 := Lib.hid hg8
        obtain ⟨x0, x1, x2⟩ := HX.out.cells
        clear hq
        have hst : Tu.stepO W H L (es.map Ent.key) (g : Int) = Tu.addK (es.map Ent.key) (Tu.keyOf W H L g) := by unfold Tu.stepO; rw [if_pos HTV.out]; rfl
        have HST := Lib.hid hst
        clear hst
        by_cases hq1 : q = -1
        · subst hq1
          go_wp2_with (go_at_call 30; refine (turnMay_any _ _).mono ?_; rw [HTV.out]; rintro e w9 ⟨rfl, rfl⟩)
          have hes8 : es.length ≤ 8 := by have := hOrb.out.2.2.2; omega
          have hbs : w.heap.size + 3 ≤ wr.heap.size := hz
          refine (addB_any w.heap.size es n (w.heap.size + 3) _ W H g L a c HOK.out HN.out hc hc2 HG8.out hes8 wr hbs HROW.out HLIE.out HB.out.size hLB.out (HS.out.below HB.out)).mono ?_
          rintro e w5 ⟨v', es', rfl, hkeys, hrow', hlie', hlb', hgr⟩
          obtain ⟨p, hp⟩ : ∃ p, (Tu.addK (es.map Ent.key) (Tu.keyOf W H L g)).2 = p := ⟨_, rfl⟩
          rw [hp]
          have HP2 := Lib.hid hp
          have HKEY := Lib.hid hkeys
          have B5 := Lib.hid (HB.out.grown hgr (by omega) (fun k hk => by have := (HROW.out.lt k hk).1; omega))
          have X5 := Lib.hid (HX.out.grown (by omega) HROW.out hgr)
          have K5 := Lib.hid (HK.out.grown (by omega) HROW.out hgr)
          have P5 := Lib.hid (HP.out.grown (by omega) HROW.out hgr)
          have R5 := Lib.hid hrow'
          have L5 := Lib.hid hlie'
          have HLB5 := Lib.hid hlb'
          have hz5 : w.heap.size + 3 ≤ w5.heap.size := Nat.le_trans hz hgr.size
          have hkc5 := K5.out.cell (i := g) (by rw [HKL.out]; exact HG8.out)
          have hkf5 := K5.out.fr g
          have hpc5 := P5.out.cell (i := i) (by rw [HPL.out]; exact hil)
          have hpf5 := P5.out.fr i
          obtain ⟨o1, ho1⟩ : ∃ x, kn.getD g 0 = x := ⟨_, rfl⟩
          obtain ⟨o2, ho2⟩ : ∃ x, pl.getD i 0 = x := ⟨_, rfl⟩
          rw [ho1] at hkc5
          rw [ho2] at hpc5
          clear hp hkeys hrow' hlie' hlb' hgr ho1 ho2 hkc hkf hpc hpf x0 x1 x2
          go_wp2
          go_roundg gg
          case measure => omega
          case rel =>
            have hO := hOrb.out
            have hb7 : w.heap.size + 1 ≠ w.heap.size + 1 + 1 := by omega
            have K6 := K5.out.put g p
            have P6 := (P5.out.set ⟨w.heap.size + 1, g, none⟩ (.int .i64 p) (by simp)).put i p
            refine ⟨i + 1, es', _, _, by omega, by go_num, ((B5.out.setCell (by simp <;> omega) _).setCell (by simp <;> omega) _), by simp <;> omega, ((X5.out.set _ _ (by simp)).set _ _ (by simp <;> omega)), K6.set _ _ (by simp), P6, ownsRow_set (ownsRow_set R5.out (by simp) _) (by simp) _, (L5.out.set K5.out (by decide) _ _).set (P5.out.set ⟨w.heap.size + 1, g, none⟩ (.int .i64 p) (by simp)) (by decide) _ _, HLB5, ?_⟩
            have hkl : es'.length ≤ es.length + 1 := by
              have h1 := Tu.addK_len (es.map Ent.key) (Tu.keyOf W H L g)
              rw [← HKEY.out, List.length_map, List.length_map] at h1
              exact h1
            refine orb_next hO hil HTL.out (p := p) ?_ ?_ (by have := hO.2.2.2; omega)
            · rw [HGV.out, HST.out, HKEY.out, ← HP2.out]
            · rw [HKEY.out, ← HP2.out, hO.2.1]; exact Tu.known_set hO.1 HG8.out
        · have HPn := Lib.hid (HP.out.put i q)
          have HNQ := Lib.hid hq1
          have hq2 : (q == -1) = false := by simpa using hq1
          go_wp2_with (go_at_call 30; refine (turnMay_any _ _).mono ?_; rw [HTV.out]; rintro e w9 ⟨rfl, rfl⟩)
          go_roundg gg
          case measure => omega
          case rel =>
            refine ⟨i + 1, es, kn, _, by omega, by go_num, HB.out.setCell (by simp <;> omega) _, by simp <;> omega, HX.out.set _ _ (by simp <;> omega), HK.out.set _ _ (by simp), HPn.out, ownsRow_set HROW.out (by simp) _, HLIE.out.set HP.out (by decide) _ _, hLB, ?_⟩
            have hO := hOrb.out
            refine orb_next hO hil HTL.out (p := q) ?_ ?_ (by have := hO.2.2.2; omega)
            · rw [HGV.out, HST.out, hO.2.1, Tu.known_hit hO.1 HG8.out (by rw [HQ.out]; exact HNQ.out), HQ.out]
            · rw [hO.2.1]; exact hO.1
end Go.Proofs.Ytmlinoanpcbflaa

/- All ways to lay a matrix that are not the same, and which is of which turn: what turn's Orbit comes to, over any memory. Condition: the matrix may be; there are at most nine turns. -/
import Derived.Test.YtmlinoanpcbflaaZgAD
namespace Go.Proofs.Ytmlinoanpcbflaa
open Go.RowKit
set_option linter.unusedVariables false

theorem Try.info_in : (Try.prog.info? 3).map (fun i => (i.zero, i.size, i.bytes)) = some (some (.int .i64 0), 1, 8) := by kernel_rfl
theorem made_zeros (n : Nat) : madeCells #[Value.int .i64 0] n = ((List.replicate n (0 : Int)).map (Value.int .i64)).toArray := by
  apply Array.ext
  · simp [madeCells]
  · intro i h1 h2
    simp [madeCells, Nat.mod_one]
theorem orb_len (W H : Nat) (L : List Int) (ts : List Int) : (Tu.orbO W H L ts).2.length = ts.length := by
  have h : ∀ (ts : List Int) (s : List (Nat × Nat × List Int) × List Int), (ts.foldl (fun s t => ((Tu.stepO W H L s.1 t).1, s.2 ++ [(Tu.stepO W H L s.1 t).2])) s).2.length = s.2.length + ts.length := by
    intro ts
    induction ts with
    | nil => intro s; rfl
    | cons t ts ih => intro s; rw [List.foldl_cons, ih]; simp; omega
  unfold Tu.orbO; rw [h]; simp
theorem pl_set (A : List Int) (m : Nat) (p : Int) : (A ++ List.replicate (m + 1) 0).set A.length p = (A ++ [p]) ++ List.replicate m 0 := by
  rw [List.set_append_right _ _ (Nat.le_refl _), Nat.sub_self, List.replicate_succ, List.set_cons_zero, List.append_assoc]; rfl
/-- what is known in a round of Orbit -/
def Orb (W H : Nat) (L ts : List Int) (len i : Nat) (es : List Ent) (kn pl : List Int) : Prop :=
  Tu.Known W H L (Tu.orbO W H L (ts.take i)).1 kn ∧ es.map Ent.key = (Tu.orbO W H L (ts.take i)).1 ∧ pl = (Tu.orbO W H L (ts.take i)).2 ++ List.replicate (len - i) 0 ∧ es.length ≤ i
theorem orb_pl {W H : Nat} {L ts : List Int} {len i : Nat} {es : List Ent} {kn pl : List Int} (h : Orb W H L ts len i es kn pl) (hi : i < len) (hl : ts.length = len) : pl.length = len := by
  rw [h.2.2.1, List.length_append, orb_len, List.length_take, List.length_replicate]; omega
/-- one turn more -/
theorem orb_next {W H : Nat} {L ts : List Int} {len i : Nat} {es es' : List Ent} {kn kn' pl : List Int} (h : Orb W H L ts len i es kn pl) (hi : i < len) (hl : ts.length = len) {p : Int}
    (h1 : Tu.stepO W H L (es.map Ent.key) (ts.getD i 0) = (es'.map Ent.key, p)) (h2 : Tu.Known W H L (es'.map Ent.key) kn') (h3 : es'.length ≤ i + 1) : Orb W H L ts len (i + 1) es' kn' (pl.set i p) := by
  obtain ⟨a1, a2, a3, a4⟩ := h
  have e := Tu.orb_take W H L ts (by omega : i < ts.length)
  rw [← a2, h1] at e
  refine ⟨by rw [e]; exact h2, by rw [e], ?_, h3⟩
  rw [e, a3]
  have hA : (Tu.orbO W H L (ts.take i)).2.length = i := by rw [orb_len, List.length_take]; omega
  have := pl_set (Tu.orbO W H L (ts.take i)).2 (len - (i + 1)) p
  rw [hA, show len - (i + 1) + 1 = len - i by omega] at this
  exact this
theorem orb_start (W H : Nat) (L ts : List Int) (len : Nat) : Orb W H L ts len 0 [] [-1, -1, -1, -1, -1, -1, -1, -1] (List.replicate len 0) := by
  refine ⟨⟨rfl, fun g hg => .inl ?_⟩, rfl, rfl, Nat.le_refl _⟩
  rcases Tu.turn8 hg with rfl | rfl | rfl | rfl | rfl | rfl | rfl | rfl <;> rfl
theorem add_any (es : List Ent) (n base : Nat) (v : Value) (W H g : Nat) (L : List Int) (a : Option Addr) (c : Nat) (hL : Rc.Ok W H L) (hn : W * H = n) (hc : n ≤ c) (hc2 : c ≤ 9223372036854775807) (hg : g < 8) (hk8 : es.length ≤ 8) (w : World) (hbase : base ≤ w.heap.size)
    (hrow : w.ownsRow base 34 3 v es.length (ents n es)) (hl : Lie n w es) (hs : SlK .u64 w a n L) :
    Calls Try.prog 53 #[v, .agg #[.int .i64 W, .int .i64 H, .slice a n c], .int .i64 g] w fun e w' =>
      ∃ (v' : Value) (es' : List Ent), e = .returned (.tuple #[v', .int .i64 (Tu.addK (es.map Ent.key) (Tu.keyOf W H L g)).2]) ∧ es'.map Ent.key = (Tu.addK (es.map Ent.key) (Tu.keyOf W H L g)).1 ∧
        w'.ownsRow base 34 3 v' es'.length (ents n es') ∧ Lie n w' es' ∧ w.grownBy w' v.ownBlock := by
  have hLn : L.length = n := by rw [hL.2.2.2.2.2, ← hn, Nat.mul_comm]; simp
  have hn16 : n ≤ 16777216 := by rw [← hLn]; exact ok_len hL
  unfold Tu.keyOf
  cases hsz : Rc.sized (Tu.sw g W H : Nat) (Tu.sw g H W : Nat) with
  | true =>
    rw [if_pos rfl]
    have := add_yes es n base v W H g (Tu.sw g W H) (Tu.sw g H W) (Tu.layL g W H L) a c hn16 (by rw [Tu.layL_len]; exact hn) hk8 w hbase hrow hl (fun w2 hb2 => by
      have h1 := turnLay_yes W H g a c L hg hL (by rw [hLn]; exact hc) hc2 hsz w2 (by rw [hLn]; exact hs.below hb2)
      rw [hLn, hn] at h1
      exact h1)
    refine this.mono fun e w' ⟨v', es', h1, h2, h3⟩ => ⟨v', es', ?_, ?_, h3⟩
    · rw [h1]; simp only [Tu.addK]; split <;> simp
    · rw [h2]; simp only [Tu.addK]; split <;> rfl
  | false =>
    rw [if_neg Bool.false_ne_true]
    have := add_no v W H g n a c w (fun w2 hb2 => turnLay_no W H g a n c hg (by have := Rc.ok_may hL; rwa [hLn] at this) (by omega) hsz w2)
    exact this.mono fun e w' ⟨h1, h2⟩ => ⟨v, es, h1, rfl, ownsRow_later hrow h2, hl.later h2, grown_below h2⟩
set_option maxRecDepth 100000 in
set_option maxHeartbeats 16000000 in
theorem orbit_pos (W H n b1 off1 : Nat) (a : Option Addr) (c len cap : Nat) (L ts : List Int) (hL : Rc.Ok W H L) (hn : W * H = n) (hc : n ≤ c) (hc2 : c ≤ 9223372036854775807) (hlen : len ≤ 9) (hpos : 0 < len) (w : World) (hs : SlK .u64 w a n L) (hl : ts.length = len) (ht : ∀ i, i < len → w.cell? ⟨b1, off1 + i, none⟩ = some (.int .i64 (ts.getD i 0))) :
    Calls Try.prog 36 #[.agg #[.int .i64 W, .int .i64 H, .slice a n c], .slice (some ⟨b1, off1, none⟩) len cap] w fun e w' =>
      ∃ (v : Value) (es : List Ent) (bp base : Nat), e = .returned (.tuple #[v, .slice (some ⟨bp, 0, none⟩) len len]) ∧ es.map Ent.key = (Tu.orbO W H L ts).1 ∧ w'.ownsRow base 34 3 v es.length (ents n es) ∧ Lie n w' es ∧ w.heap.size ≤ bp ∧ OwnI w' bp 3 (Tu.orbO W H L ts).2 ∧ Below w.heap.size w w' := by
  have hLn : L.length = n := by rw [hL.2.2.2.2.2, ← hn, Nat.mul_comm]; simp
  have HLn := Lib.hid hLn
  have hn16 : n ≤ 16777216 := by rw [← hLn]; exact ok_len hL
  have HOK := Lib.hid hL
  have HS := Lib.hid hs
  have HT := Lib.hid ht
  have HTL := Lib.hid hl
  have HN := Lib.hid hn
  have hmk := run_make_row' (P := Try.prog) 42 3 (.int .i64 0) 8 Try.underlying42 Try.info_in rfl .i64 .i64 len (by omega) (by omega)
  rw [made_zeros] at hmk
  obtain ⟨cs, hcs⟩ : ∃ cs, ((List.replicate len (0 : Int)).map (Value.int .i64)).toArray = cs := ⟨_, rfl⟩
  rw [hcs] at hmk
  have HCS := Lib.hid hcs
  clear hcs hL hs ht hn hl hLn
  go_enter Try.func36, Try.ntmps36
  go_wp2
  refine wp_loop_rounds 9 ?_
  rw [rounds_succ]
  go_wp2
  rw [rounds_succ]
  go_wp2
  rw [rounds_succ]
  go_wp2
  rw [rounds_succ]
  go_wp2
  rw [rounds_succ]
  go_wp2
  rw [rounds_succ]
  go_wp2
  rw [rounds_succ]
  go_wp2
  rw [rounds_succ]
  go_wp2
  rw [rounds_succ]
  go_wp2
  have X1 := (((Sb.new w 34 (.int .i64 W) (.int .i64 H) (.slice a n c)).alloc (.cells #[.int .i64 (-1), .int .i64 (-1), .int .i64 (-1), .int .i64 (-1), .int .i64 (-1), .int .i64 (-1), .int .i64 (-1), .int .i64 (-1)] 108)).alloc (.cells cs 3))
  have hk1 := heapNew (w.alloc (.cells #[.int .i64 W, .int .i64 H, .slice a n c] 34)) (.cells #[.int .i64 (-1), .int .i64 (-1), .int .i64 (-1), .int .i64 (-1), .int .i64 (-1), .int .i64 (-1), .int .i64 (-1), .int .i64 (-1)] 108)
  have K1 : OwnI (((w.alloc (.cells #[.int .i64 W, .int .i64 H, .slice a n c] 34)).alloc (.cells #[.int .i64 (-1), .int .i64 (-1), .int .i64 (-1), .int .i64 (-1), .int .i64 (-1), .int .i64 (-1), .int .i64 (-1), .int .i64 (-1)] 108)).alloc (.cells cs 3)) (w.heap.size + 1) 108 [-1, -1, -1, -1, -1, -1, -1, -1] := by
    rw [World.size_alloc] at hk1
    exact heapOld _ _ hk1
  have hp1 := heapNew ((w.alloc (.cells #[.int .i64 W, .int .i64 H, .slice a n c] 34)).alloc (.cells #[.int .i64 (-1), .int .i64 (-1), .int .i64 (-1), .int .i64 (-1), .int .i64 (-1), .int .i64 (-1), .int .i64 (-1), .int .i64 (-1)] 108)) (.cells cs 3)
  have P1 : OwnI (((w.alloc (.cells #[.int .i64 W, .int .i64 H, .slice a n c] 34)).alloc (.cells #[.int .i64 (-1), .int .i64 (-1), .int .i64 (-1), .int .i64 (-1), .int .i64 (-1), .int .i64 (-1), .int .i64 (-1), .int .i64 (-1)] 108)).alloc (.cells cs 3)) (w.heap.size + 1 + 1) 3 (List.replicate len 0) := by
    rw [World.size_alloc, World.size_alloc] at hp1
    unfold OwnI
    rw [HCS.out]
    exact hp1
  have B1 : Below w.heap.size w (((w.alloc (.cells #[.int .i64 W, .int .i64 H, .slice a n c] 34)).alloc (.cells #[.int .i64 (-1), .int .i64 (-1), .int .i64 (-1), .int .i64 (-1), .int .i64 (-1), .int .i64 (-1), .int .i64 (-1), .int .i64 (-1)] 108)).alloc (.cells cs 3)) := by go_grown
  obtain ⟨W1, hW1⟩ : ∃ W1, ((w.alloc (.cells #[.int .i64 W, .int .i64 H, .slice a n c] 34)).alloc (.cells #[.int .i64 (-1), .int .i64 (-1), .int .i64 (-1), .int .i64 (-1), .int .i64 (-1), .int .i64 (-1), .int .i64 (-1), .int .i64 (-1)] 108)).alloc (.cells cs 3) = W1 := ⟨_, rfl⟩
  have hz1 : w.heap.size + 3 ≤ W1.heap.size := by rw [← hW1]; simp
  rw [hW1] at X1 K1 P1 B1 ⊢
  have HX1 := Lib.hid X1
  have HK1 := Lib.hid K1
  have HP1 := Lib.hid P1
  have HB1 := Lib.hid B1
  clear X1 K1 P1 B1 hk1 hp1 hW1 hmk
  go_loopg [6, 24] len (fun gg s6 s24 wr => ∃ (i : Nat) (es : List Ent) (kn pl : List Int), i + gg = len ∧ s24 = .int .i64 i ∧ Below w.heap.size w wr ∧ w.heap.size + 3 ≤ wr.heap.size ∧ Sb wr w.heap.size 34 (.int .i64 W) (.int .i64 H) (.slice a n c) ∧ OwnI wr (w.heap.size + 1) 108 kn ∧ OwnI wr (w.heap.size + 1 + 1) 3 pl ∧ wr.ownsRow (w.heap.size + 3) 34 3 s6 es.length (ents n es) ∧ Lie n wr es ∧ Hid (Orb W H L ts len i es kn pl))
  case atStart => exact ⟨0, [], _, _, by omega, rfl, HB1.out, hz1, HX1.out, HK1.out, HP1.out, World.ownsRow_nil _ _ _ _, fun e he => absurd he (by simp), orb_start W H L ts len⟩
  case round =>
    obtain ⟨i, es, kn, pl, hi, rfl, hB, hz, hX, hK, hP, hrow, hlie, hOrb⟩ := hrel
    have HB := Lib.hid hB
    have HX := Lib.hid hX
    have HK := Lib.hid hK
    have HP := Lib.hid hP
    have HROW := Lib.hid hrow
    have HLIE := Lib.hid hlie
    clear hB hX hK hP hrow hlie
    cases gk with
    | zero =>
      have hil : i = len := by omega
      have hlt : ¬ (i : Int) < (len : Int) := by omega
      have hO := hOrb.out
      rw [hil] at hO
      obtain ⟨o1, o2, o3, o4⟩ := hO
      rw [List.take_of_length_le (by rw [HTL.out]; exact Nat.le_refl _)] at o2 o3
      rw [Nat.sub_self, List.replicate_zero, List.append_nil] at o3
      have HO2 := Lib.hid o2
      have HO3 := Lib.hid o3
      clear o1 o2 o3 o4
      go_wp2
      go_ret2
      exact ⟨_, es, _, rfl, HO2.out, ⟨_, HROW.out⟩, HLIE.out, by omega, by have := HP.out; rw [HO3.out] at this; exact this, HB.out⟩
    | succ gg =>
      have hil : i < len := by omega
      have hlt : (i : Int) < (len : Int) := by omega
      have hcv := cell_later HB.out (HT.out i hil)
      have hpl := orb_pl hOrb.out hil HTL.out
      have hkl := hOrb.out.1.1
      obtain ⟨gv, hgv⟩ : ∃ gv, ts.getD i 0 = gv := ⟨_, rfl⟩
      rw [hgv] at hcv
      have HGV := Lib.hid hgv
      have hpc := HP.out.cell (i := i) (by rw [hpl]; exact hil)
      have hpf := HP.out.fr i
      obtain ⟨pold, hpold⟩ : ∃ x, pl.getD i 0 = x := ⟨_, rfl⟩
      rw [hpold] at hpc
      have HPL := Lib.hid hpl
      have HKL := Lib.hid hkl
      clear hgv hpold hpl hkl
      cases hT : Tu.isT gv with
      | false =>
        have HTV := Lib.hid hT
        clear hT
        have HPn := Lib.hid (HP.out.put i (-1))
        go_wp2_with (go_at_call 30; refine (turnMay_any _ _).mono ?_; rw [HTV.out]; rintro e w9 ⟨rfl, rfl⟩)
        go_roundg gg
        case measure => omega
        case rel =>
          refine ⟨i + 1, es, kn, _, by omega, by go_num, HB.out.setCell (by simp <;> omega) _, by simp <;> omega, HX.out.set _ _ (by simp <;> omega), HK.out.set _ _ (by simp), HPn.out, ownsRow_set HROW.out (by simp) _, HLIE.out.set HP.out (by decide) _ _, ?_⟩
          refine orb_next hOrb.out hil HTL.out (p := -1) ?_ ?_ (by have := hOrb.out.2.2.2; omega)
          · rw [HGV.out]; unfold Tu.stepO; rw [HTV.out]; rfl
          · rw [hOrb.out.2.1]; exact hOrb.out.1
      | true =>
        obtain ⟨g, hg8, rfl⟩ := Tu.isT_nat hT
        have HTV := Lib.hid hT
        clear hT
        have hg0 : (0 : Int) ≤ (g : Int) := by omega
        have hg1 : (g : Int) < 8 := by omega
        have hkc := HK.out.cell (i := g) (by rw [HKL.out]; exact hg8)
        have hkf := HK.out.fr g
        obtain ⟨q, hq⟩ : ∃ q, kn.getD g 0 = q := ⟨_, rfl⟩
        rw [hq] at hkc
        have HQ := Lib.hid hq
        have HG8 := Lib.hid hg8
        obtain ⟨x0, x1, x2⟩ := HX.out.cells
        clear hq
        have hst : Tu.stepO W H L (es.map Ent.key) (g : Int) = Tu.addK (es.map Ent.key) (Tu.keyOf W H L g) := by unfold Tu.stepO; rw [if_pos HTV.out]; rfl
        have HST := Lib.hid hst
        clear hst
        by_cases hq1 : q = -1
        · subst hq1
          go_wp2_with (go_at_call 30; refine (turnMay_any _ _).mono ?_; rw [HTV.out]; rintro e w9 ⟨rfl, rfl⟩)
          have hes8 : es.length ≤ 8 := by have := hOrb.out.2.2.2; omega
          have hbs : w.heap.size + 3 ≤ wr.heap.size := hz
          refine (add_any es n (w.heap.size + 3) _ W H g L a c HOK.out HN.out hc hc2 HG8.out hes8 wr hbs HROW.out HLIE.out (HS.out.below HB.out)).mono ?_
          rintro e w5 ⟨v', es', rfl, hkeys, hrow', hlie', hgr⟩
          obtain ⟨p, hp⟩ : ∃ p, (Tu.addK (es.map Ent.key) (Tu.keyOf W H L g)).2 = p := ⟨_, rfl⟩
          rw [hp]
          have HP2 := Lib.hid hp
          have HKEY := Lib.hid hkeys
          have B5 := Lib.hid (HB.out.grown hgr (by omega) (fun k hk => by have := (HROW.out.lt k hk).1; omega))
          have X5 := Lib.hid (HX.out.grown (by omega) HROW.out hgr)
          have K5 := Lib.hid (HK.out.grown (by omega) HROW.out hgr)
          have P5 := Lib.hid (HP.out.grown (by omega) HROW.out hgr)
          have R5 := Lib.hid hrow'
          have L5 := Lib.hid hlie'
          have hz5 : w.heap.size + 3 ≤ w5.heap.size := Nat.le_trans hz hgr.size
          have hkc5 := K5.out.cell (i := g) (by rw [HKL.out]; exact HG8.out)
          have hkf5 := K5.out.fr g
          have hpc5 := P5.out.cell (i := i) (by rw [HPL.out]; exact hil)
          have hpf5 := P5.out.fr i
          obtain ⟨o1, ho1⟩ : ∃ x, kn.getD g 0 = x := ⟨_, rfl⟩
          obtain ⟨o2, ho2⟩ : ∃ x, pl.getD i 0 = x := ⟨_, rfl⟩
          rw [ho1] at hkc5
          rw [ho2] at hpc5
          clear hp hkeys hrow' hlie' hgr ho1 ho2 hkc hkf hpc hpf x0 x1 x2
          go_wp2
          go_roundg gg
          case measure => omega
          case rel =>
            have hO := hOrb.out
            have hb7 : w.heap.size + 1 ≠ w.heap.size + 1 + 1 := by omega
            have K6 := K5.out.put g p
            have P6 := (P5.out.set ⟨w.heap.size + 1, g, none⟩ (.int .i64 p) (by simp)).put i p
            refine ⟨i + 1, es', _, _, by omega, by go_num, ((B5.out.setCell (by simp <;> omega) _).setCell (by simp <;> omega) _), by simp <;> omega, ((X5.out.set _ _ (by simp)).set _ _ (by simp <;> omega)), K6.set _ _ (by simp), P6, ownsRow_set (ownsRow_set R5.out (by simp) _) (by simp) _, (L5.out.set K5.out (by decide) _ _).set (P5.out.set ⟨w.heap.size + 1, g, none⟩ (.int .i64 p) (by simp)) (by decide) _ _, ?_⟩
            have hkl : es'.length ≤ es.length + 1 := by
              have h1 := Tu.addK_len (es.map Ent.key) (Tu.keyOf W H L g)
              rw [← HKEY.out, List.length_map, List.length_map] at h1
              exact h1
            refine orb_next hO hil HTL.out (p := p) ?_ ?_ (by have := hO.2.2.2; omega)
            · rw [HGV.out, HST.out, HKEY.out, ← HP2.out]
            · rw [HKEY.out, ← HP2.out, hO.2.1]; exact Tu.known_set hO.1 HG8.out
        · have HPn := Lib.hid (HP.out.put i q)
          have HNQ := Lib.hid hq1
          have hq2 : (q == -1) = false := by simpa using hq1
          go_wp2_with (go_at_call 30; refine (turnMay_any _ _).mono ?_; rw [HTV.out]; rintro e w9 ⟨rfl, rfl⟩)
          go_roundg gg
          case measure => omega
          case rel =>
            refine ⟨i + 1, es, kn, _, by omega, by go_num, HB.out.setCell (by simp <;> omega) _, by simp <;> omega, HX.out.set _ _ (by simp <;> omega), HK.out.set _ _ (by simp), HPn.out, ownsRow_set HROW.out (by simp) _, HLIE.out.set HP.out (by decide) _ _, ?_⟩
            have hO := hOrb.out
            refine orb_next hO hil HTL.out (p := q) ?_ ?_ (by have := hO.2.2.2; omega)
            · rw [HGV.out, HST.out, hO.2.1, Tu.known_hit hO.1 HG8.out (by rw [HQ.out]; exact HNQ.out), HQ.out]
            · rw [hO.2.1]; exact hO.1
end Go.Proofs.Ytmlinoanpcbflaa

/- The variants with those that an image is laid as, and which one each turn lays: dict's laid, over any memory. Condition: the image may be, and be laid so; at most nine turns; few variants. -/
import Derived.Test.YtmlinoanpcbflaaZDcH
namespace Go.Proofs.Ytmlinoanpcbflaa
open Go.RowKit
set_option linter.unusedVariables false
open Dc
theorem dm_load {w : World} {b : Nat} {t : TypeId} {c m W H : Int} {v : Value} (hh : Ib w b t c m W H v) : w.cell? ⟨b, 2, none⟩ = some (.int .i64 W) ∧ w.cell? ⟨b, 3, none⟩ = some (.int .i64 H) ∧ w.cell? ⟨b, 4, none⟩ = some v := by
  obtain ⟨_, _, h2, h3, h4⟩ := hh.cells
  exact ⟨h2, h3, h4⟩
theorem Dc.insAll_len {α : Type} [DecidableEq α] (xs : List α) : ∀ l : List α, (insAll l xs).length ≤ l.length + xs.length := by
  induction xs with
  | nil => intro l; simp [insAll]
  | cons x xs ih =>
    intro l
    have h1 := ih (ins l x)
    have h2 : (ins l x).length ≤ l.length + 1 := by unfold ins; split <;> simp
    rw [insAll_cons, List.length_cons]; omega
theorem six_new (w : World) (t : TypeId) (x0 x1 x2 x3 x4 x5 : Value) : ∀ (j : Nat) (u : Value), [x0, x1, x2, x3, x4, x5][j]? = some u → (w.alloc (.cells #[x0, x1, x2, x3, x4, x5] t)).cell? ((⟨w.heap.size, 0, none⟩ : Addr).add j) = some u := by
  intro j u h
  have hj : j < 6 := by have := (List.getElem?_eq_some_iff.1 h).1; simpa using this
  have : j = 0 ∨ j = 1 ∨ j = 2 ∨ j = 3 ∨ j = 4 ∨ j = 5 := by omega
  rcases this with rfl | rfl | rfl | rfl | rfl | rfl <;> (simp at h; subst h; simp [go_sem])
def Dc.LaidR (w : World) (F : Nat → Prop) (ts : List Tp) (x : Im) (l : List Int) (e : Ending) (w' : World) : Prop :=
  ∃ (v' : Value) (vl' : List Vr) (bp : Nat), e = .returned (.tuple #[v', .slice (some ⟨bp, 0, none⟩) l.length l.length]) ∧ VarX w' (fun g => F g ∨ w.heap.size ≤ g) v' vl' ∧ Said ts (imgs (ts ++ [(x, l)])) vl' ∧ OwnI w' bp 3 (l.map fun t => plc (imgs (ts ++ [(x, l)])) (lay x t)) ∧ w.heap.size ≤ bp ∧ Below w.heap.size w w'
set_option maxRecDepth 100000 in
set_option maxHeartbeats 8000000 in
theorem laid_any {w : World} {F : Nat → Prop} {sb mb : Nat} {ts : List Tp} {tv vv : Value} {tl : List Te} {vl : List Vr} (h : DctX w F sb ts tv vv mb tl vl) (x : Im) (a : Option Addr) (c : Nat) (hOK : Rc.Ok x.2.2.1 x.2.2.2.1 x.2.2.2.2) (hc : x.2.2.2.2.length ≤ c) (hc2 : c ≤ 9223372036854775807) (hs : SlK .u64 w a x.2.2.2.2.length x.2.2.2.2) (A : Option Addr) (cap : Nat) (l : List Int) (hpos : 0 < l.length) (hlen : l.length ≤ 9) (hT : SlK .i64 w A l.length l) (hk : ∀ t ∈ l, Tu.isT t = true ∧ Tu.keyOf x.2.2.1 x.2.2.2.1 x.2.2.2.2 t.toNat = some (key x t)) (hv9 : vl.length ≤ 100000) (hpl : ∀ r ∈ vl, r.1.2.2.2.2.length ≤ 9000000000) :
    Calls Try.prog 21 #[.pointer (some ⟨sb, 0, none⟩), imV x (.slice a x.2.2.2.2.length c), .slice A l.length cap] w (LaidR w F ts x l) := by
  obtain ⟨b1, off1, rfl⟩ : ∃ b o, A = some ⟨b, o, none⟩ := by
    obtain ⟨_, h0 | ⟨b, o, rfl, _⟩⟩ := hT
    · omega
    · exact ⟨b, o, rfl⟩
  obtain ⟨c0, c1, c2⟩ := h.cells
  obtain ⟨av, cv, rfl, hvc, hvm⟩ := h.var.lies.form
  have hcl0 : av = none → cv = 0 := fun e => by
    rcases h.var.lies with ⟨e2, _⟩ | ⟨g, cap, cur, e2, _⟩
    · injection e2
    · injection e2 with e2; rw [e] at e2; cases e2
  have HV0 : Hid (VarX w F (.slice av vl.length vl.length) vl) := Lib.hid ⟨h.var.lies.clip, fun g hg => h.var.here g (by cases av <;> exact hg), h.var.pix, h.var.own, h.var.apart⟩
  have HPLn := Lib.hid hpl
  clear hpl
  have HSA : Hid (Said ts (imgs ts) vl) := Lib.hid h.vkey
  have hOL := hOK.2.2.2.2.2
  obtain ⟨x1, x2, W, H, L⟩ := x
  dsimp only at hOK hc hs hk hOL
  have hn : W * H = L.length := by rw [hOL, Nat.mul_comm]; simp
  have hn16 : L.length ≤ 16777216 := ok_len hOK
  have HOR := orb_all W H L x1 x2 l hk
  unfold imV agI
  dsimp only
  have E1 := Ib.new w 36 x1 x2 W H (.slice a L.length c)
  have B1 := dc_box w (.cells #[.int .i64 x1, .int .i64 x2, .int .i64 W, .int .i64 H, .slice a L.length c] 36)
  have HV1 := Lib.hid (HV0.out.later B1)
  have HLN : Hid (W * H = L.length) := Lib.hid hn
  have C0 := cell_later B1 c1
  obtain ⟨W1, hW1⟩ : ∃ W1, w.alloc (.cells #[.int .i64 x1, .int .i64 x2, .int .i64 W, .int .i64 H, .slice a L.length c] 36) = W1 := ⟨_, rfl⟩
  rw [hW1] at E1 B1 HV1 C0
  have HORB := Lib.hid (orbitB_pos W H L.length b1 off1 a c l.length cap L l hOK hn hc hc2 hlen hpos W1 (hs.below B1) rfl (fun i hi => by
    obtain ⟨_, h0 | ⟨b, o, e, hcc⟩⟩ := hT
    · omega
    · cases e; exact cell_later B1 (hcc i hi)))
  have hz1 : W1.heap.size = w.heap.size + 1 := by rw [← hW1]; simp
  obtain ⟨nv, hnv⟩ : ∃ nv, vl.length = nv := ⟨_, rfl⟩
  have HNV := Lib.hid hnv
  rw [hnv] at C0 hvc hv9 HV1
  have HCL := Lib.hid (fun W => clip_any av nv cv hvc (by unfold maxLen at hvm; omega) hcl0 W)
  obtain ⟨len, hln⟩ : ∃ len, l.length = len := ⟨_, rfl⟩
  have HLL := Lib.hid hln
  obtain ⟨n, hLn⟩ : ∃ n, L.length = n := ⟨_, rfl⟩
  have HN := Lib.hid hLn
  rw [hLn] at HORB E1 hW1 hn16
  rw [hln] at HORB hlen hpos
  rw [hLn, hln]
  have HW1 := Lib.hid hW1
  have HB1 := Lib.hid B1
  have HE1 := Lib.hid E1
  have HOR1 := Lib.hid HOR.1
  have HOR2 := Lib.hid HOR.2
  have HOKK := Lib.hid hk
  obtain ⟨d2, d3, d4⟩ := dm_load E1
  clear h c0 c2 c1 hcl0 HV0 HOR hOK hc hs hk hOL hn hT hW1 B1 E1 hnv hln hLn hvc hvm
  go_enter Try.func21, Try.ntmps21
  go_upto_region 1 with fail
  rw [HW1.out]
  go_upto_region 2 with (go_at_call 35; refine (HCL.out _).mono ?_; rintro e w' ⟨rfl, rfl⟩)
  go_upto_region 3 with (go_at_call 36; refine HORB.out.mono ?_; rintro e w2 ⟨vW, es, bp, base, rfl, hes, hrow, hlie, hlb, hbp, hpl, hb2⟩; obtain ⟨aw, cw, rfl⟩ := ownsRow_val hrow; have HES := Lib.hid hes; have HROW := Lib.hid hrow; have HLIE := Lib.hid hlie; have HLB := Lib.hid hlb; have HBP := Lib.hid hbp; have HPL := Lib.hid hpl; have HB2 := Lib.hid hb2; clear hes hrow hlie hlb hbp hpl hb2)
  have HE2 := Lib.hid (HE1.out.later HB2.out)
  have HV2 := Lib.hid (HV1.out.later HB2.out)
  have HB3 := Lib.hid (bel_step HB1.out HB2.out)
  obtain ⟨k, hk⟩ : ∃ k, es.length = k := ⟨_, rfl⟩
  have HK := Lib.hid hk
  have hk9 : k ≤ 9 := by
    rw [← hk]
    have h1 := congrArg List.length HES.out
    rw [List.length_map, HOR1.out] at h1
    have h2 := insAll_len (l.map (key (x1, x2, W, H, L))) []
    rw [List.length_map, HLL.out] at h2
    simp only [List.length_nil] at h2
    omega
  rw [hk]
  have hmk := run_make_row' (P := Try.prog) 42 3 (.int .i64 0) 8 Try.underlying42 Try.info_in rfl .i64 .i64 k (by omega) (by omega)
  rw [made_zeros] at hmk
  obtain ⟨cs, hcs⟩ : ∃ cs, ((List.replicate k (0 : Int)).map (Value.int .i64)).toArray = cs := ⟨_, rfl⟩
  rw [hcs] at hmk
  have HCS := Lib.hid hcs
  have hz2 := HB2.out.size
  have hbp2 : bp < w2.heap.size := (Array.getElem?_eq_some_iff.1 HPL.out).1
  have X0 : LaidX w (w2.alloc (.cells cs 3)) F w.heap.size bp w2.heap.size base n c (x1, x2, W, H, L) a (.slice aw es.length cw) es (Tu.orbO W H L l).2 (List.replicate k 0) (.slice av nv nv) vl := by
    have hb := dc_box w2 (.cells cs 3)
    have hnum : OwnI (w2.alloc (.cells cs 3)) w2.heap.size 3 (List.replicate k 0) := by
      unfold OwnI; rw [HCS.out]; exact World.alloc_heap_new w2 _
    refine ⟨bel_step HB3.out hb, Nat.le_refl _, by have := HBP.out; omega, by omega, by omega, HE2.out.later hb, ownsRow_later HROW.out hb, HLIE.out.later hb, (hb.block bp hbp2).trans HPL.out, hnum, (HV2.out.later hb).mono fun g hg => .inl hg, ?_⟩
    refine .inl ⟨av, by rw [HNV.out], ?_⟩
    have := (HV2.out.later hb).lies
    exact this
  have HX0 := Lib.hid X0
  clear hcs hk X0 d2 d3 d4
  go_wp2
  obtain ⟨nb, hnb⟩ : ∃ nb, w2.heap.size = nb := ⟨_, rfl⟩
  rw [hnb] at HX0
  obtain ⟨W3, hW3⟩ : ∃ W3, w2.alloc (.cells cs 3) = W3 := ⟨_, rfl⟩
  rw [hW3] at HX0
  try rw [hnb]
  try rw [hW3]
  have hw9 : w.heap.size + 1 ≤ w2.heap.size := by omega
  clear hnb hW3 hmk HV2 HE2 HB3 HROW HLIE HPL HV1 HB1 HE1
  obtain ⟨ws, hws⟩ : ∃ ws, insAll [] (l.map (key (x1, x2, W, H, L))) = ws := ⟨_, rfl⟩
  have HWS := Lib.hid hws
  have HEK : Hid (es.map Ent.key = ws) := Lib.hid (by rw [HES.out, HOR1.out, hws])
  clear hws
  go_loopg [8, 34] k (fun gg s8 s34 wr => ∃ (i : Nat) (v8 : Value) (vi : List Vr) (N : List Int), i + gg = k ∧ s34 = .int .i64 i ∧ s8 = v8 ∧ LaidX w wr F w.heap.size bp nb base n c (x1, x2, W, H, L) a (.slice aw es.length cw) es (Tu.orbO W H L l).2 N v8 vi ∧ Hid (N.length = k ∧ Said ts (imK ts (x1, x2, W, H, L) ws i) vi ∧ Nums ts (x1, x2, W, H, L) ws i N ∧ (∀ r ∈ vi, r.1.2.2.2.2.length ≤ 9000000000) ∧ vi.length ≤ nv + i))
  case atStart => exact ⟨0, _, vl, _, by omega, rfl, rfl, HX0.out, by simp, by unfold imK; simpa [insAll] using HSA.out, fun j hj => absurd hj (Nat.not_lt_zero _), HPLn.out, by have := HNV.out; omega⟩
  case round =>
    obtain ⟨i, v8, vi, N, hi, rfl, hs8, hX, hI⟩ := hrel
    obtain ⟨a8, c8, e8, _, hm8⟩ := hX.var.lies.form
    subst e8
    subst hs8
    have HX := Lib.hid hX
    clear hX
    cases gk with
    | zero =>
      obtain rfl : i = k := by omega
      have hlt : ¬ (i : Int) < (i : Int) := by omega
      obtain ⟨hNl, hSd, hNm, _, _⟩ := hI.out
      have him : imK ts (x1, x2, W, H, L) ws i = imgs (ts ++ [((x1, x2, W, H, L), l)]) := by
        have hwl : ws.length = i := by rw [← HEK.out, List.length_map, HK.out]
        unfold imK
        rw [List.take_of_length_le (by omega), ← HWS.out, ways_imgs, imgs_more]
      rw [him] at hSd
      have HSD := Lib.hid hSd
      have HNL := Lib.hid hNl
      -- what each turn lays
      have HFIN : Hid (∀ q, q < len → ∃ z : Nat, (Tu.orbO W H L l).2.getD q 0 = z ∧ z < i ∧ N.getD z 0 = plc (imgs (ts ++ [((x1, x2, W, H, L), l)])) (lay (x1, x2, W, H, L) (l.getD q 0))) := Lib.hid fun q hq => by
        have hql : q < l.length := by rw [HLL.out]; exact hq
        have e1 : l.getD q 0 = l[q] := by rw [List.getD_eq_getElem?_getD, List.getElem?_eq_getElem hql]; rfl
        have e2 : (Tu.orbO W H L l).2.getD q 0 = plc ws (key (x1, x2, W, H, L) l[q]) := by
          rw [HOR2.out, HWS.out, List.getD_eq_getElem?_getD, List.getElem?_map, List.getElem?_eq_getElem hql]; rfl
        obtain ⟨z, hz1, hz2, hz3⟩ := plc_at (l := ws) (x := key (x1, x2, W, H, L) l[q]) (by rw [← HWS.out]; exact insAll_mem.2 (.inr (List.mem_map.2 ⟨_, List.getElem_mem hql, rfl⟩)))
        have hwl : ws.length = i := by rw [← HEK.out, List.length_map, HK.out]
        refine ⟨z, by rw [e2, hz1], by omega, ?_⟩
        rw [hNm z (by omega) _ hz3, him, e1]
        rfl
      have HPL0 : Hid ((Tu.orbO W H L l).2.length = len) := Lib.hid (by rw [orb_len, HLL.out])
      clear hSd hNl hNm him hI
      go_wp2
      go_loopg [67] len (fun gg s67 wz => ∃ (j : Nat) (P : List Int), j + gg = len ∧ s67 = .int .i64 j ∧ LaidX w wz F w.heap.size bp nb base n c (x1, x2, W, H, L) a (.slice aw es.length cw) es P N (.slice a8 vi.length c8) vi ∧ Hid (P.length = len ∧ (∀ q, q < j → P.getD q 0 = plc (imgs (ts ++ [((x1, x2, W, H, L), l)])) (lay (x1, x2, W, H, L) (l.getD q 0))) ∧ ∀ q, j ≤ q → P.getD q 0 = (Tu.orbO W H L l).2.getD q 0))
      case atStart => exact ⟨0, _, by omega, rfl, HX.out, HPL0.out, fun q hq => absurd hq (Nat.not_lt_zero _), fun q _ => rfl⟩
      case round =>
        obtain ⟨j, P, hj, rfl, hX2, hI2⟩ := hrel
        have HX2 := Lib.hid hX2
        clear hX2
        cases gk with
        | zero =>
          obtain rfl : j = len := by omega
          have hlt2 : ¬ (j : Int) < (j : Int) := by omega
          go_wp2
          go_ret2
          obtain ⟨i1, i2, _⟩ := hI2.out
          have hP : P = l.map fun t => plc (imgs (ts ++ [((x1, x2, W, H, L), l)])) (lay (x1, x2, W, H, L) t) := by
            apply List.ext_getElem
            · rw [i1, List.length_map, HLL.out]
            · intro q h1 h2
              have h3 := i2 q (by omega)
              rw [List.getD_eq_getElem?_getD, List.getElem?_eq_getElem h1] at h3
              have h4 : q < l.length := by rw [HLL.out]; omega
              rw [List.getD_eq_getElem?_getD, List.getElem?_eq_getElem h4] at h3
              simpa using h3
          refine ⟨_, vi, bp, by rw [HLL.out]; rfl, HX2.out.var, HSD.out, ?_, HX2.out.obp, HX2.out.below⟩
          rw [← hP]; exact HX2.out.plc
        | succ gg2 =>
          have hjl : j < len := by omega
          have hlt2 : (j : Int) < (len : Int) := by omega
          obtain ⟨i1, i2, i3⟩ := hI2.out
          obtain ⟨z, f1, f2, f3⟩ := HFIN.out j hjl
          have hpc := HX2.out.plc.cell (i := j) (by rw [i1]; exact hjl)
          rw [i3 j (Nat.le_refl _), f1] at hpc
          have hpf := HX2.out.plc.fr j
          have hnc := HX2.out.num.cell (i := z) (by rw [HNL.out]; exact f2)
          have hz0 : (0 : Int) ≤ (z : Int) := by omega
          have hzi : (z : Int) < (i : Int) := by omega
          obtain ⟨y, hy⟩ : ∃ y, N.getD z 0 = y := ⟨_, rfl⟩
          rw [hy] at hnc f3
          have HY := Lib.hid f3
          have X3 := Lib.hid (HX2.out.setP j y)
          clear i1 i2 i3 f1 f3 hy
          go_wp2
          go_roundg gg2
          case measure => omega
          case rel =>
            obtain ⟨i1, i2, i3⟩ := hI2.out
            refine ⟨j + 1, _, by omega, by go_num, X3.out, by rw [List.length_set]; exact i1, fun q hq => ?_, fun q hq => ?_⟩
            · rw [List.getD_eq_getElem?_getD]
              by_cases e : q = j
              · subst e
                rw [List.getElem?_set_self (by omega), ← HY.out]; rfl
              · rw [List.getElem?_set_ne (fun h => e h.symm), ← List.getD_eq_getElem?_getD]
                exact i2 q (by omega)
            · rw [List.getD_eq_getElem?_getD, List.getElem?_set_ne (by omega), ← List.getD_eq_getElem?_getD]
              exact i3 q (by omega)
    | succ gg =>
      have hik : i < k := by omega
      have hlt : (i : Int) < (k : Int) := by omega
      obtain ⟨en, hen⟩ : ∃ en, es[i]? = some en := ⟨_, List.getElem?_eq_getElem (by rw [HK.out]; exact hik)⟩
      have hrw := HX.out.row
      rw [HK.out] at hrw
      obtain ⟨gw, cw', ew⟩ := ownsRow_pos hrw (by omega)
      injection ew with ew1 ew2 ew3
      subst ew1
      subst ew3
      obtain ⟨q0, q1, q2⟩ := ents_get n es i en hen
      have q0' : wr.cell? ⟨gw, i * 3, none⟩ = some (.int .i64 (en.1 : Nat)) := by rw [hrw.cellAt _ (by omega), q0]
      have q1' : wr.cell? ⟨gw, i * 3 + 1, none⟩ = some (.int .i64 (en.2.1 : Nat)) := by rw [hrw.cellAt _ (by omega), q1]
      have q2' : wr.cell? ⟨gw, i * 3 + 2, none⟩ = some (.slice (some ⟨en.2.2.1, 0, none⟩) n n) := by rw [hrw.cellAt _ (by omega), q2]
      obtain ⟨eo1, eo2⟩ := HX.out.lie en (List.mem_of_getElem? hen)
      have HLBe := Lib.hid (HLB.out en (List.mem_of_getElem? hen))
      have HEN : Hid (ws[i]? = some (Ent.key en)) := Lib.hid (by rw [← HEK.out, List.getElem?_map, hen]; rfl)
      have HEM := Lib.hid (List.mem_of_getElem? hen)
      obtain ⟨p, q, g, T⟩ := en
      dsimp only at q0' q1' q2' eo1 eo2 HLBe
      obtain ⟨c0, c1, c2, c3, c4⟩ := HX.out.img.cells
      have hbx := HX.out.img.lt
      have hwb := dc_box wr (.cells #[.int .i64 p, .int .i64 q, .slice (some ⟨g, 0, none⟩) n n] 34)
      have hwb2 := dc_box (wr.alloc (.cells #[.int .i64 p, .int .i64 q, .slice (some ⟨g, 0, none⟩) n n] 34)) (.cells #[.int .i64 x1, .int .i64 x2, .int .i64 p, .int .i64 q, .slice (some ⟨g, 0, none⟩) n n] 36)
      have hib := Ib.new (wr.alloc (.cells #[.int .i64 p, .int .i64 q, .slice (some ⟨g, 0, none⟩) n n] 34)) 36 x1 x2 p q (.slice (some ⟨g, 0, none⟩) n n)
      have hwb5 := bel_step hwb hwb2
      obtain ⟨W5, hW5⟩ : ∃ W5, (wr.alloc (.cells #[.int .i64 p, .int .i64 q, .slice (some ⟨g, 0, none⟩) n n] 34)).alloc (.cells #[.int .i64 x1, .int .i64 x2, .int .i64 p, .int .i64 q, .slice (some ⟨g, 0, none⟩) n n] 36) = W5 := ⟨_, rfl⟩
      rw [hW5] at hib hwb5
      rw [World.size_alloc] at hib
      have HW5 := Lib.hid hW5
      have HX5 := Lib.hid (HX.out.later hwb5)
      have HIB := Lib.hid hib
      obtain ⟨hNl, hSd, hNm, hLn9, hvl⟩ := hI.out
      have heg : OwnG 0 W5 g T := eo1.later hwb5
      have HEG := Lib.hid heg
      have HTn : Hid (T.length = n) := Lib.hid eo2
      have HIX := Lib.hid (dindex_any _ vi (wr.heap.size + 1) g n (x1, x2, p, q, T) W5 HX5.out.fit.lies (fun r hr => ⟨(HX5.out.var.pix r hr).1, Nat.le_trans (hLn9 r hr) (by omega)⟩) (by dsimp only; rw [HTn.out]; exact hib) (by dsimp only; exact ownG_len heg rfl))
      rw [hSd.imgs] at HIX
      have HSD := Lib.hid hSd
      have HNM := Lib.hid hNm
      have HNL := Lib.hid hNl
      have HL9 := Lib.hid hLn9
      dsimp only at c0 c1 c2 c3
      clear hW5 hib hwb hwb2 hwb5 hI hSd hNm hLn9 heg eo1 eo2 q0 q1 q2 hrw hen hNl
      go_upto_region 9 with (go_at_call 37; rw [HW5.out]; refine HIX.out.mono ?_; rintro e w6 ⟨rfl, hb6⟩; have HX6 := Lib.hid (HX5.out.later hb6); have HIB6 := Lib.hid (HIB.out.later hb6); have HB6 := Lib.hid hb6; have hnc := HX6.out.num.cell (i := i) (by rw [HNL.out]; exact hik); have hnf := HX6.out.num.fr i; clear hb6)
      obtain ⟨pl, hpl⟩ : ∃ pl, plc (imK ts (x1, x2, W, H, L) ws i) (x1, x2, p, q, T) = pl := ⟨_, rfl⟩
      rw [hpl]
      have HP := Lib.hid hpl
      have X7 := HX6.out.setN i pl
      have hib7 : Ib (w6.setCell ⟨nb, i, none⟩ (.int .i64 pl)) (wr.heap.size + 1) 36 x1 x2 p q (.slice (some ⟨g, 0, none⟩) n n) := by
        have := HIB6.out
        refine (Below.heap_setCell w6 _ _ _ fun e => ?_).trans this
        have h1 : w6.heap[nb]? = _ := HX6.out.num
        have e' : wr.heap.size + 1 = nb := e
        have h2 : w6.heap[wr.heap.size + 1]? = _ := this
        rw [e', h1] at h2
        injection h2 with h2
        injection h2 with _ h2 _
        exact absurd h2 (by decide)
      obtain ⟨w7, hw7⟩ : ∃ w7, w6.setCell ⟨nb, i, none⟩ (.int .i64 pl) = w7 := ⟨_, rfl⟩
      rw [hw7] at X7 hib7
      rw [hw7]
      have HX7 := Lib.hid X7
      have HIB7 := Lib.hid hib7
      have hnc7 := X7.num.cell (i := i) (by rw [List.length_set, HNL.out]; exact hik)
      have hgd : (N.set i pl).getD i 0 = pl := by rw [List.getD_eq_getElem?_getD, List.getElem?_set_self (by rw [HNL.out]; exact hik)]; rfl
      rw [hgd] at hnc7
      have hnf7 := X7.num.fr i
      clear hpl X7 hw7 hnc hnf q0' q1' q2' c0 c1 c2 c3 c4 hgd hib7
      by_cases hin : (x1, x2, p, q, T) ∈ imK ts (x1, x2, W, H, L) ws i
      · have hne : (pl == -1) = false := by
          obtain ⟨z, hz, _⟩ := plc_at hin
          rw [HP.out] at hz
          rw [hz, beq_eq_false_iff_ne]; omega
        have HIN := Lib.hid hin
        clear hin
        go_wp2
        go_roundg gg
        case measure => omega
        case rel =>
          have hst : ins (imK ts (x1, x2, W, H, L) ws i) (x1, x2, p, q, T) = imK ts (x1, x2, W, H, L) ws (i + 1) := (imK_succ ts (x1, x2, W, H, L) HEN.out).symm
          have hpp : plc (imK ts (x1, x2, W, H, L) ws (i + 1)) (mk (x1, x2, W, H, L) (Ent.key (p, q, g, T))) = pl := by
            rw [← hst, ← HP.out]
            unfold ins; rw [if_pos HIN.out]; rfl
          refine ⟨i + 1, _, vi, _, by omega, by go_num, rfl, HX7.out, by rw [List.length_set]; exact HNL.out, ?_, ?_, HL9.out, by omega⟩
          · rw [← hst]; exact HSD.out.old HIN.out
          · have := HNM.out.succ HEN.out (by rw [HNL.out]; exact hik)
            rw [hpp] at this
            exact this
      · have hpe : pl = -1 := by
          have := plc_neg.2 hin
          rw [HP.out] at this
          have h2 := HP.out
          unfold plc at h2
          rw [if_neg hin] at h2
          exact h2.symm
        subst hpe
        have HIN := Lib.hid hin
        have hvl9 : vi.length ≤ 1000000 := by omega
        obtain ⟨m0, m1, m2, m3, m4⟩ := HIB7.out.cells
        have hm9 := HIB7.out.lt
        clear hin
        go_upto_region 11 with fail
        have X8 := HX7.out.setN i (vi.length : Int)
        rw [List.set_set] at X8
        have hib8 : Ib (w7.setCell ⟨nb, i, none⟩ (.int .i64 (vi.length : Int))) (wr.heap.size + 1) 36 x1 x2 p q (.slice (some ⟨g, 0, none⟩) n n) := by
          have := HIB7.out
          refine (Below.heap_setCell w7 _ _ _ fun e => ?_).trans this
          have h1 : w7.heap[nb]? = _ := HX7.out.num
          have e' : wr.heap.size + 1 = nb := e
          have h2 : w7.heap[wr.heap.size + 1]? = _ := this
          rw [e', h1] at h2
          injection h2 with h2
          injection h2 with _ h2 _
          exact absurd h2 (by decide)
        obtain ⟨w8, hw8⟩ : ∃ w8, w7.setCell ⟨nb, i, none⟩ (.int .i64 (vi.length : Int)) = w8 := ⟨_, rfl⟩
        rw [hw8] at X8 hib8
        rw [hw8]
        obtain ⟨k0, k1, k2, k3, k4⟩ := hib8.cells
        have hk9' := hib8.lt
        have hb8 := dc_box w8 (.cells #[.int .i64 x1, .int .i64 x2, .int .i64 p, .int .i64 q, .slice (some ⟨g, 0, none⟩) n n, .slice none 0 0] 69)
        have HX8 := Lib.hid (X8.later hb8)
        have hnew : ∀ (j : Nat) (u : Value), (vcs ((x1, x2, p, q, T), g, (none, 0), []))[j]? = some u → (w8.alloc (.cells #[.int .i64 x1, .int .i64 x2, .int .i64 p, .int .i64 q, .slice (some ⟨g, 0, none⟩) n n, .slice none 0 0] 69)).cell? ((⟨w8.heap.size, 0, none⟩ : Addr).add j) = some u := fun j u hj => by
          unfold vcs at hj
          dsimp only at hj
          rw [HTn.out] at hj
          exact six_new _ _ _ _ _ _ _ _ j u hj
        have HNEW := Lib.hid hnew
        clear X8 hw8 hb8 hnew m0 m1 m2 m3 m4 hm9 hib8 hnc7 hnf7
        go_wp2_with (at_builtin; refine wpList_push rfl _ _ rfl rfl HX8.out.fit HX8.out.below.size ((x1, x2, p, q, T), g, (none, 0), []) ⟨w8.heap.size, 0, none⟩ 1 rfl HNEW.out hvl9 ?_; intro gg9 cc9 w9 hown hgrow hB9; have HOWN := Lib.hid hown; have HGR := Lib.hid hgrow; have HB9 := Lib.hid hB9; clear hown hgrow hB9)
        go_roundg gg
        case measure => omega
        case rel =>
          have hst : ins (imK ts (x1, x2, W, H, L) ws i) (x1, x2, p, q, T) = imK ts (x1, x2, W, H, L) ws (i + 1) := (imK_succ ts (x1, x2, W, H, L) HEN.out).symm
          have hpp : plc (imK ts (x1, x2, W, H, L) ws (i + 1)) (mk (x1, x2, W, H, L) (Ent.key (p, q, g, T))) = (vi.length : Int) := by
            rw [← hst, HSD.out.len]
            show plc (ins _ (x1, x2, p, q, T)) (x1, x2, p, q, T) = _
            rw [plc_ins, if_neg HIN.out]
          refine ⟨i + 1, _, vi ++ [((x1, x2, p, q, T), g, (none, 0), [])], _, by omega, by go_num, rfl, HX8.out.push ⟨⟨Nat.zero_le _, ?_⟩, ?_⟩ ⟨rfl, rfl, rfl⟩ HOWN.out HGR.out HB9.out, by rw [List.length_set]; exact HNL.out, ?_, ?_, ?_, ?_⟩
          · exact (HX8.out.lie _ HEM.out).1.2
          · have h1 : W1.heap.size ≤ g := HLBe.out
            show w.heap.size ≤ g
            omega
          · rw [← hst]
            refine HSD.out.new HIN.out (fun z hz => ?_) g
            unfold imK
            exact insAll_mem.2 (.inl hz)
          · have := HNM.out.succ HEN.out (by rw [HNL.out]; exact hik)
            rw [hpp] at this
            exact this
          · intro r hr
            rcases List.mem_append.1 hr with hr | hr
            · exact HL9.out r hr
            · obtain rfl := List.mem_singleton.1 hr
              dsimp only; rw [HTn.out]; omega
          · rw [List.length_append, List.length_singleton]; omega
end Go.Proofs.Ytmlinoanpcbflaa

/- What writes a raster of bytes, as a closure over a head; an image's bytes, of a raw kind, by the code; over any memory. Condition: the kind may tell the image, at most 80 by 9. -/
import Derived.Test.YtkjkepnailamnaaGreatZgAB
import Derived.Test.YtkjkepnailamnaaGreatZgAE
import Derived.Test.YtkjkepnailamnaaGreatZRwWs
import Derived.Deep.RegionHeld3
import Derived.Deep.AppendLies
import Derived.Test.YtkjkepnailamnaaGreatZgAF
import Derived.Test.YtkjkepnailamnaaGreatZRwJ
import Derived.Deep.DeepCutAuto
import Derived.Test.YtkjkepnailamnaaGreatZImG
import Derived.Test.YtkjkepnailamnaaGreatZgAH
namespace Go.Proofs.YtkjkepnailamnaaGreat
open Go.RowKit
set_option linter.unusedVariables false
theorem Im.writer_raw (h : Hd.H) (hm : Hd.May h) (hk : 3 < h.kd) (w : World) :
    Calls Tryz.prog 69 #[agH h] w fun e w' => ∃ b, e = .returned (.func (.func 118) #[] #[.pointer (some ⟨b, 0, none⟩)]) ∧ Hb w' b 62 h ∧ Below w.heap.size w w' := by
  have HR := Lib.hid (hraw_any h hm)
  rw [decide_eq_true hk] at HR
  obtain ⟨kd, ww, hh, mx⟩ := h
  have X := Hb.new w 62 ⟨kd, ww, hh, mx⟩
  have hbx := (Below.refl w.heap.size w).alloc (Nat.le_refl _) (.cells #[.int .i64 kd, .int .i64 ww, .int .i64 hh, .int .i64 mx] 62)
  obtain ⟨W, hW⟩ : ∃ W, w.alloc (.cells #[.int .i64 kd, .int .i64 ww, .int .i64 hh, .int .i64 mx] 62) = W := ⟨_, rfl⟩
  simp only at X
  rw [hW] at X hbx
  unfold agH at HR ⊢
  simp only at HR ⊢
  clear hm hk
  go_enter Tryz.func69, Tryz.ntmps69
  go_upto_region 1 with fail
  try rw [hW]
  clear hW
  obtain ⟨l0, l1, l2, l3⟩ := X.cells
  simp only at l0 l1 l2 l3
  go_wp2_with fail
  refine (HR.out _).mono ?_
  rintro e w2 ⟨rfl, hb2⟩
  go_wp2
  go_ret
  exact ⟨_, rfl, X.later hb2, hbx.trans (hb2.mono hbx.size)⟩
theorem Im.raster_raw (a : Option Addr) (n cap : Nat) (R : List Int) (h : Hd.H) (b : Nat) (w : World) (X : Hb w b 62 h)
    (HC : ∀ W, Below w.heap.size w W → Calls Tryz.prog 119 #[.slice a n cap, agH h] W (RwwR (R, 0) W)) :
    Calls Tryz.prog 118 #[.slice a n cap, .pointer (some ⟨b, 0, none⟩)] w fun e w' => ∃ a' c', e = .returned (.slice a' R.length c') ∧ SlK .u8 w' a' R.length R ∧ Below w.heap.size w w' := by
  have HC := Lib.hid HC
  obtain ⟨kd, ww, hh, mx⟩ := h
  unfold agH RwwR at HC
  simp only at HC
  obtain ⟨l0, l1, l2, l3⟩ := X.cells
  simp only at l0 l1 l2 l3
  go_enter Tryz.func118, Tryz.ntmps118
  go_wp2_with fail
  refine (HC.out _ (.refl _ _)).mono ?_
  rintro e w2 ⟨a', c', rfl, hs, _, hb⟩
  have HS := Lib.hid hs
  clear hs
  go_wp2
  go_ret
  exact ⟨_, _, rfl, HS.out, hb⟩
end Go.Proofs.YtkjkepnailamnaaGreat
namespace Go.Proofs.YtkjkepnailamnaaGreat
open Go.RowKit
set_option linter.unusedVariables false
theorem Im.conv_rm (w : World) (s : ByteArray) (hs : s.size ≤ 100000) :
    ∃ cap w', (convert 9 22 (.string s)).run Tryz.prog w = .ok (.slice (some ⟨w.heap.size, 0, none⟩) s.size cap) w' ∧ Im.Rm w' w.heap.size s.size cap (bytesOf s) ∧ Below w.heap.size w w' := by
  refine ⟨_, _, Lib.run_convert_string_bytes w _ _ 5 s Tryz.underlying9 Tryz.underlying22 Tryz.underlying5, ⟨⟨⟨bytesOf_length s, .inr ⟨w.heap.size, 0, rfl, fun i hi => ?_⟩⟩, grownCap_ge _ _ _ _, ?_, ?_⟩, by rw [Lib.bytesWorld_size]; omega, fun j j1 j2 => ?_⟩, Im.bytes_below _ _ _⟩
  · rw [Nat.zero_add, Lib.bytesWorld_cell _ _ _ _ hi, Im.bytes_get]
  · have := grownCap_le_maxLen w s.size 0 5 (by unfold maxLen; omega)
    unfold maxLen at this; omega
  · intro z hz
    unfold bytesOf at hz
    obtain ⟨b, _, rfl⟩ := List.mem_map.1 hz
    have := b.toNat_lt
    omega
  · have hat := Lib.bytesWorld_at_new w 5 s
    have hsz : (Lib.bytesCells w 5 s).size = grownCap w s.size 0 5 := by
      have := grownCap_ge w s.size 0 5
      have e : s.data.size = s.size := rfl
      simp [Lib.bytesCells, e]; omega
    have hj : j < (Lib.bytesCells w 5 s).size := by omega
    refine ⟨?_, ?_⟩
    · simp [World.cell?, hat, Array.getElem?_eq_getElem hj]
    · simp [World.frozen?, hat]; omega
theorem Im.step_app {ops : Array Oper} {o : Oper} {a : Act} {w : World} {K : Act → World → Prop} {Q : Exit → Act → World → Prop} {E : Prop} (hgd : o.guard = none) (s x : Operand)
    (ho : o.op = .call { callee := .builtin .append, args := #[s, x], argTypes := #[22, 22] })
    {b n cap : Nat} {xs : List Int} (h : Im.Rm w b n cap xs) (hn : 1 ≤ n) {ad : Option Addr} {m c : Nat} {l : List Int} (hy : SlK .u8 w ad m l) (hm : 1 ≤ m) (hl9 : n + m ≤ 1000000)
    (hs : a.eval s = .slice (some ⟨b, 0, none⟩) n cap) (hx : a.eval x = .slice ad m c)
    (hK : ∀ a' c' w', SlK .u8 w' a' (n + m) (xs ++ l) → (∀ B, B ≤ b → Below B w w') → K (a.put o.dst (.slice a' (n + m) c')) w') :
    if Region.wanted o (yielded ops a.tmps) = true then Oper.wp Tryz.prog o a w K Q else E := by
  have hw : Region.wanted o (yielded ops a.tmps) = true := by simp [Region.wanted, hgd]
  rw [if_pos hw]
  obtain ⟨a', c', w', hr, h1, h2⟩ := Im.run_app h hn (c := c) hy hm hl9 o.type
  unfold Oper.wp execOp
  simp only [ho, resolve, invoke, builtin, Sem.run_bind, Sem.run_pure, Result.andThen_ok, List.map_toArray, List.map_cons, List.map_nil, hs, hx, hr]
  exact hK _ _ _ h1 h2
end Go.Proofs.YtkjkepnailamnaaGreat
namespace Go.Proofs.YtkjkepnailamnaaGreat
open Go.RowKit
set_option linter.unusedVariables false
theorem rws_app {w : World} {base k : Nat} {v : Value} {l : List Int} (hr : w.ownsRow base 5 1 v k (l.map (Value.int .u8))) (hk : l.length = k) (h1 : 1 ≤ k) : ∃ g c, v = .slice (some ⟨g, 0, none⟩) k c ∧ SlK .u8 w (some ⟨g, 0, none⟩) k l ∧ k ≤ c ∧ c ≤ 9223372036854775807 := by
  obtain ⟨a, c, e, hs⟩ := byt_row (show w.ownsRow base 5 1 v k (byts l) from hr) hk
  rcases hr.2 with ⟨hv, h0⟩ | ⟨g, cap, cur, hv, k1, k2, k3, k4, k5, k6⟩
  · omega
  · rw [e] at hv; injection hv with e1 e2 e3
    subst e1; subst e3
    exact ⟨g, c, e, hs, k3, by unfold maxLen at k4; omega⟩
theorem rws_cut {w : World} {a : Option Addr} {n m cap : Nat} {zs : List Int} (h : Bt.Bs w a n cap zs) (hm : m ≤ n) : Bt.Bs w a m cap (zs.take m) := by
  obtain ⟨⟨h1, h2⟩, h3, h4, h5⟩ := h
  refine ⟨⟨by rw [List.length_take, h1]; omega, ?_⟩, by omega, h4, fun z hz => h5 z (List.mem_of_mem_take hz)⟩
  rcases h2 with h2 | ⟨b, o, e, hc⟩
  · left; omega
  · refine .inr ⟨b, o, e, fun i hi => ?_⟩
    rw [hc i (by omega), List.getD_eq_getElem?_getD, List.getD_eq_getElem?_getD, List.getElem?_take_of_lt hi]
theorem Rw.read_cut {G : Hd.H} (hm : Rw.May G) {l : List Int} (hl : Pl.Fits G l) {W H : Nat} (hW : G.w = (W : Int)) (hH : G.h = (H : Int)) (hL : l.length = W * H) {k : Nat} (hk : k < (Rw.wRows G l W H).length) : Rw.readV G ((Rw.wRows G l W H).take k) = ([], 6) := by
  have hlen := Rw.wRows_len hm hl hW hL H (Nat.le_refl _)
  have hsz : Hj.size G = ((Rw.wRows G l W H).length : Int) := by
    rw [Rw.size_eq hm, hH, hlen, Int.natCast_mul]
  rw [Rw.readV_ref hm]
  have e : Rw.badV G ((Rw.wRows G l W H).take k) = 0 := by
    rw [Rw.badV_eq, hsz]
    show Rw.badN G ((Rw.wRows G l W H).take k) (Rw.wRows G l W H).length = 0
    rw [← Rw.bad_none hm hl hL k (by omega)]
    unfold Rw.badN
    rw [List.take_of_length_le (show ((Rw.wRows G l W H).take k).length ≤ (Rw.wRows G l W H).length by rw [List.length_take]; omega)]
  unfold Rw.refV
  rw [e, if_neg (by omega), if_pos (by rw [hsz, List.length_take]; omega)]
end Go.Proofs.YtkjkepnailamnaaGreat
namespace Go.Proofs.YtkjkepnailamnaaGreat
open Go.RowKit
set_option linter.unusedVariables false
theorem Im.good_of_fits {p c m : Int} (hU : Pq.Px.U p) (h : Pq.Px.fitsV p c m = true) : Pq.GoodP p c m := by
  rcases Pq.Px.tri hU with ⟨a, b, d, h3⟩ | ⟨a, h1⟩ | h0
  · obtain ⟨k1, k2, k3, k4, -, -⟩ := Pq.Px.fits3_get h3 h
    exact .inl ⟨k1, a, b, d, h3, k2, k3, k4⟩
  · obtain ⟨k1, k2, -, -⟩ := Pq.Px.fits1_get h1 h
    exact .inr ⟨k1, a, h1, k2⟩
  · exact absurd h (by rw [Pq.Px.fitsV0 h0]; decide)
theorem Im.fits_of_all {G : Hd.H} {l : List Int} (hU : ∀ p ∈ l, Pq.Px.U p) (h : Pl.fitAll G l = true) : Pl.Fits G l := fun p hp => by
  unfold Pl.fitAll at h
  rw [List.all_eq_true] at h
  exact Im.good_of_fits (hU p hp) (h p hp)
theorem Im.tell_get {c m kd : Int} {W H : Int} {n : Nat} {L : List Int} (hU : ∀ x ∈ L, Pq.Px.U x) (h : Im.tellV c m W H n L kd = true) : Hd.May ⟨kd, W, H, m⟩ ∧ Hj.chan ⟨kd, W, H, m⟩ = c ∧ Pl.fitAll ⟨kd, W, H, m⟩ L = true ∧ Pl.Fits ⟨kd, W, H, m⟩ L ∧ Rc.mayV W H n = true := by
  have hmay : Im.mayV c m W H n L = true := by unfold Im.tellV at h; simp only [Bool.and_eq_true] at h; exact h.2
  have htk : Im.tellsV ⟨kd, W, H, m⟩ c m = true := by
    rw [Im.tells_may hmay]; unfold Im.tellV at h; simp only [Bool.and_eq_true] at h; exact h.1
  obtain ⟨hHd, hs2⟩ : Hd.May ⟨kd, W, H, m⟩ ∧ Hj.same2 (Hj.chan ⟨kd, W, H, m⟩) m c m = true := by
    unfold Im.tellsV at htk
    rw [Bool.and_eq_true, decide_eq_true_eq] at htk
    exact htk
  have hcc : Hj.chan ⟨kd, W, H, m⟩ = c := by unfold Hj.same2 at hs2; simp only [Bool.and_eq_true, beq_iff_eq] at hs2; exact hs2.1
  have hfa : Pl.fitAll ⟨kd, W, H, m⟩ L = true := by
    have hm2 := hmay
    unfold Im.mayV at hm2
    rw [Bool.and_eq_true] at hm2
    unfold Pl.fitAll
    rw [hcc]
    exact hm2.2
  have hm2 := hmay
  unfold Im.mayV at hm2
  rw [Bool.and_eq_true] at hm2
  exact ⟨hHd, hcc, hfa, Im.fits_of_all hU hfa, hm2.1⟩
def Im.rawV (kd m : Int) (gw gh : Nat) (L : List Int) : List Int := Hd.bytes ⟨kd, (gw : Int), (gh : Int), m⟩ ++ Rw.wRows ⟨kd, (gw : Int), (gh : Int), m⟩ L gw gh
def Im.plainV (kd m : Int) (gw gh : Nat) (L : List Int) : List Int := Hd.bytes ⟨kd, (gw : Int), (gh : Int), m⟩ ++ Pl.wAll ⟨kd, (gw : Int), (gh : Int), m⟩ L L.length
def Im.writeV (c m kd : Int) (gw gh n : Nat) (L : List Int) : List Int × Int :=
  if Im.tellV c m (gw : Int) (gh : Int) n L kd = true then (if kd < 4 then (Im.plainV kd m gw gh L, 0) else (Im.rawV kd m gw gh L, 0)) else ([], 1)
def ImWrR (t : List Int × Int) (w : World) (e : Ending) (w' : World) : Prop := ∃ a cp, e = .returned (.tuple #[.slice a t.1.length cp, .int .i64 t.2]) ∧ Bt.Bs w' a t.1.length cp t.1 ∧ Below w.heap.size w w'
theorem refImWrite_no (c m kd : Int) (gw gh : Nat) (hc : Nu.I c) (hm : Nu.I m) (a : Option Addr) (n cap : Nat) (L : List Int) (hn : n ≤ 1000) (hU : ∀ x ∈ L, Pq.Px.U x) (ht : Im.tellV c m (gw : Int) (gh : Int) n L kd = false) (w : World) (hs : SlK .u64 w a n L) :
    Calls Tryz.prog 14 #[agI c m (gw : Int) (gh : Int) (.slice a n cap), .int .i64 kd] w (ImWrR ([], 1) w) := by
  have B := box1 w (.cells #[.int .i64 c, .int .i64 m, .int .i64 gw, .int .i64 gh, .slice a n cap] 34)
  have HT := Lib.hid (refTells_any c m (gw : Int) (gh : Int) hc hm a n cap L (by omega) hU kd _ (hs.below B))
  rw [ht] at HT
  clear ht hs hU hn
  unfold agI at HT ⊢
  unfold ImWrR
  go_enter Tryz.func14, Tryz.ntmps14
  go_wp2_with (go_at_call 53; refine HT.out.mono ?_; rintro e w1 ⟨rfl, hb⟩; replace B := bel_step B hb)
  go_returns
  exact ⟨none, 0, rfl, ⟨⟨rfl, .inl rfl⟩, Nat.le_refl _, by omega, fun x hx => by cases hx⟩, B⟩
section
variable (c m kd : Int) (gw gh : Nat) (hc : Nu.I c) (hm : Nu.I m) (a : Option Addr) (n cap : Nat) (L : List Int) (hn : n ≤ 400) (hN : n = gw * gh) (hU : ∀ x ∈ L, Pq.Px.U x) (ht : Im.tellV c m (gw : Int) (gh : Int) n L kd = true)
include hc hm hn hN hU ht
set_option maxRecDepth 100000 in
set_option maxHeartbeats 4000000 in
theorem refImWrite_plain (hk : kd < 4) (w : World) (hs : SlK .u64 w a n L) :
    Calls Tryz.prog 14 #[agI c m (gw : Int) (gh : Int) (.slice a n cap), .int .i64 kd] w (ImWrR (Im.plainV kd m gw gh L, 0) w) := by
  obtain ⟨hHd, hcc, hfa, hFits, -⟩ := Im.tell_get hU ht
  have hFit := Hj.may_fit hHd
  have hLn : L.length = n := hs.1
  have B := box1 w (.cells #[.int .i64 c, .int .i64 m, .int .i64 gw, .int .i64 gh, .slice a n cap] 34)
  have HT := Lib.hid (refTells_any c m (gw : Int) (gh : Int) hc hm a n cap L (by omega) hU kd _ (hs.below B))
  rw [ht] at HT
  have HW := Lib.hid (refWrite_any _ hFit)
  rw [Hj.wr_may hHd] at HW
  have HP : Hid (∀ W, Below w.heap.size w W → Calls Tryz.prog 55 #[.slice a n cap, agH ⟨kd, (gw : Int), (gh : Int), m⟩] W fun e w' => e = .returned (.tuple #[.string (strOfNums (Pl.wAll ⟨kd, (gw : Int), (gh : Int), m⟩ L L.length)), .int .i64 0]) ∧ Below W.heap.size W w') := Lib.hid fun W hb => by
    have := refWriteP_any a n cap L ⟨kd, (gw : Int), (gh : Int), m⟩ hFit ⟨hHd, by simp only; omega⟩ (by omega) (by simp only; rw [hN]; simp) hU W (hs.below hb)
    unfold Pl.wV at this
    rw [if_pos hfa] at this
    exact this
  have hTs := Hj.text_size hFit
  have hTb := Hj.text_bytes ⟨kd, (gw : Int), (gh : Int), m⟩
  have hAl := Pl.wAll_len (G := ⟨kd, (gw : Int), (gh : Int), m⟩) hU L.length (Nat.le_refl _)
  have hAb := Pl.wAll_bytes hFits L.length (Nat.le_refl _)
  unfold Im.plainV
  obtain ⟨A, hA⟩ : ∃ A, Pl.wAll ⟨kd, (gw : Int), (gh : Int), m⟩ L L.length = A := ⟨_, rfl⟩
  rw [hA] at HP hAl hAb ⊢
  have hUs : (strOfNums A).size = A.length := strOfNums_size _
  have hUb : bytesOf (strOfNums A) = A := bytesOf_strOfNums hAb
  rw [← hTb, ← hUb]
  obtain ⟨T, hT⟩ : ∃ T, Hj.text ⟨kd, (gw : Int), (gh : Int), m⟩ = T := ⟨_, rfl⟩
  rw [hT] at HW hTs ⊢
  obtain ⟨U, hU9⟩ : ∃ U, strOfNums A = U := ⟨_, rfl⟩
  rw [hU9] at HP hUs ⊢
  rw [← bytesOf_append]
  have hTU : T.size + U.size ≤ 100000 := by rw [hUs]; omega
  have hTU2 : (T ++ U).size ≤ 100000 := by rw [ByteArray.size_append]; exact hTU
  unfold agI agH at *
  simp only at HW HP
  clear hHd hcc hfa hFits hFit hLn ht hTb hAl hAb hA hUs hUb hT hU9 hU hn hN hs hTs hc hm
  have HTU := Lib.hid hTU2
  have X := Ib.new w 34 c m (gw : Int) (gh : Int) (.slice a n cap)
  unfold ImWrR
  have hk2 : decide (kd < 4) = true := decide_eq_true hk
  go_enter Tryz.func14, Tryz.ntmps14
  go_wp2_with fail
  refine HT.out.mono ?_
  rintro e w1 ⟨rfl, hb1⟩
  replace X := X.later hb1
  have HB1 := Lib.hid (bel_step (w := w) B hb1)
  obtain ⟨n0, n1, n2, n3, n4⟩ := X.cells
  clear hb1 B HT
  go_upto_region 5 with fail
  have Y := Hb.new w1 112 ⟨kd, (gw : Int), (gh : Int), m⟩
  have hb2 := (Below.refl w1.heap.size w1).alloc (Nat.le_refl _) (.cells #[.int .i64 kd, .int .i64 gw, .int .i64 gh, .int .i64 m] 112)
  simp only at Y
  obtain ⟨yb, hyb⟩ : ∃ yb, w1.heap.size = yb := ⟨_, rfl⟩
  obtain ⟨W2, hW2⟩ : ∃ W2, w1.alloc (.cells #[.int .i64 kd, .int .i64 gw, .int .i64 gh, .int .i64 m] 112) = W2 := ⟨_, rfl⟩
  rw [hW2] at Y hb2
  try rw [hW2]
  rw [hyb] at Y
  try rw [hyb]
  have HB2 := Lib.hid (HB1.out.trans (hb2.mono HB1.out.size))
  replace X := X.later hb2
  clear hW2 hyb hb2 HB1 n0 n1 n2 n3 n4
  obtain ⟨k0, k1, k2, k3⟩ := Y.cells
  simp only at k0 k1 k2 k3
  go_wp2_with fail
  refine (HW.out _).mono ?_
  rintro e w3 ⟨rfl, hb3⟩
  replace X := X.later hb3
  replace Y := Y.later hb3
  have HB3 := Lib.hid (HB2.out.trans (hb3.mono HB2.out.size))
  clear k0 k1 k2 k3 hb3 HB2
  obtain ⟨n0, n1, n2, n3, n4⟩ := X.cells
  obtain ⟨k0, k1, k2, k3⟩ := Y.cells
  simp only at k0 k1 k2 k3
  go_wp2_with fail
  refine (HP.out _ HB3.out).mono ?_
  rintro e w4 ⟨rfl, hb4⟩
  have HB4 := Lib.hid (HB3.out.trans (hb4.mono HB3.out.size))
  clear n0 n1 n2 n3 n4 k0 k1 k2 k3 X Y hb4
  obtain ⟨q1, v1, hq1, hr1, hz1⟩ := Im.conv_rm w4 (T ++ U) HTU.out
  have hL1 : ¬ 9223372036854775807 < T.size + U.size := by omega
  go_wp2_with fail
  go_returns
  exact ⟨_, q1, by rw [bytesOf_length, ByteArray.size_append]; rfl, by rw [bytesOf_length]; exact hr1.1, HB4.out.trans (hz1.mono HB4.out.size)⟩
set_option maxRecDepth 100000 in
set_option maxHeartbeats 4000000 in
theorem refImWrite_raw (hk : 3 < kd) (w : World) (hs : SlK .u64 w a n L) :
    Calls Tryz.prog 14 #[agI c m (gw : Int) (gh : Int) (.slice a n cap), .int .i64 kd] w (ImWrR (Im.rawV kd m gw gh L, 0) w) := by
  obtain ⟨hHd, hcc, hfa, hFits, -⟩ := Im.tell_get hU ht
  have hFit := Hj.may_fit hHd
  have hRM : Rw.May ⟨kd, (gw : Int), (gh : Int), m⟩ := ⟨hHd, by simp only; omega⟩
  have hL : L.length = gw * gh := by rw [hs.1, hN]
  have B := box1 w (.cells #[.int .i64 c, .int .i64 m, .int .i64 gw, .int .i64 gh, .slice a n cap] 34)
  have HT := Lib.hid (refTells_any c m (gw : Int) (gh : Int) hc hm a n cap L (by omega) hU kd _ (hs.below B))
  rw [ht] at HT
  have HW := Lib.hid (refWrite_any _ hFit)
  rw [Hj.wr_may hHd] at HW
  have HP : Hid (∀ W, Below w.heap.size w W → Calls Tryz.prog 56 #[.slice a n cap, agH ⟨kd, (gw : Int), (gh : Int), m⟩] W (RwwR (Rw.wRows ⟨kd, (gw : Int), (gh : Int), m⟩ L gw gh, 0) W)) := Lib.hid fun W hb => by
    have := refRawWrite_any a n cap L ⟨kd, (gw : Int), (gh : Int), m⟩ hFit hRM (by omega) (by simp only; rw [hN]; simp) hU W (hs.below hb)
    rw [Rw.writeT_good hRM hFits rfl rfl hL] at this
    exact this
  have hTs := Hj.text_size hFit
  have hTb := Hj.text_bytes ⟨kd, (gw : Int), (gh : Int), m⟩
  have hRl := Rw.wRows_len hRM hFits rfl hL gh (Nat.le_refl _)
  have hRb := Rw.wRows_in hRM hFits (W := gw) gh
  have hst := Rw.stride_at hRM
  have hgh : gh ≤ 65536 := by have := hRM.m; simp only at this; omega
  have hg1 : 1 ≤ gh := by have := hRM.m; simp only at this; omega
  have hT1 : 1 ≤ (Hj.text ⟨kd, (gw : Int), (gh : Int), m⟩).size := by
    have h := Hj.text_len ⟨kd, (gw : Int), (gh : Int), m⟩
    have : 1 ≤ (Hd.bytes ⟨kd, (gw : Int), (gh : Int), m⟩).length := by unfold Hd.bytes; simp
    omega
  unfold Im.rawV
  obtain ⟨R, hR⟩ : ∃ R, Rw.wRows ⟨kd, (gw : Int), (gh : Int), m⟩ L gw gh = R := ⟨_, rfl⟩
  rw [hR] at HP hRl hRb ⊢
  have hR9 : R.length ≤ 1610612736 := by
    rw [hRl]
    exact Nat.le_trans (Nat.mul_le_mul hgh hst.2.1) (by decide)
  rw [← hTb]
  obtain ⟨T, hT⟩ : ∃ T, Hj.text ⟨kd, (gw : Int), (gh : Int), m⟩ = T := ⟨_, rfl⟩
  rw [hT] at HW hTs hT1 ⊢
  unfold agI agH at *
  unfold RwwR at HP
  simp only at HW HP
  have HRB := Lib.hid hRb
  have HTl : Hid ((bytesOf T ++ R).length = T.size + R.length) := Lib.hid (by rw [List.length_append, bytesOf_length])
  have HTB : Hid (∀ x ∈ bytesOf T, 0 ≤ x ∧ x ≤ 255) := Lib.hid (by rw [← hT, Hj.text_bytes]; exact Hj.bytes_fit _)
  obtain ⟨i0, hi, hz0, hz1, hz2⟩ := info_parts Bt.Tryz.info_byt
  clear hHd hcc hfa hFits hFit hL ht hTb hRl hRb hst hR hT hU hn hN hs hc hm hRM hgh hg1
  have X := Ib.new w 34 c m (gw : Int) (gh : Int) (.slice a n cap)
  unfold ImWrR
  have hk2 : decide (kd < 4) = false := decide_eq_false (by omega)
  go_enter Tryz.func14, Tryz.ntmps14
  go_wp2_with fail
  refine HT.out.mono ?_
  rintro e w1 ⟨rfl, hb1⟩
  replace X := X.later hb1
  have HB1 := Lib.hid (bel_step (w := w) B hb1)
  obtain ⟨n0, n1, n2, n3, n4⟩ := X.cells
  clear hb1 B HT
  go_upto_region 5 with fail
  have Y := Hb.new w1 112 ⟨kd, (gw : Int), (gh : Int), m⟩
  have hb2 := (Below.refl w1.heap.size w1).alloc (Nat.le_refl _) (.cells #[.int .i64 kd, .int .i64 gw, .int .i64 gh, .int .i64 m] 112)
  simp only at Y
  obtain ⟨yb, hyb⟩ : ∃ yb, w1.heap.size = yb := ⟨_, rfl⟩
  obtain ⟨W2, hW2⟩ : ∃ W2, w1.alloc (.cells #[.int .i64 kd, .int .i64 gw, .int .i64 gh, .int .i64 m] 112) = W2 := ⟨_, rfl⟩
  rw [hW2] at Y hb2
  try rw [hW2]
  rw [hyb] at Y
  try rw [hyb]
  have HB2 := Lib.hid (HB1.out.trans (hb2.mono HB1.out.size))
  replace X := X.later hb2
  clear hW2 hyb hb2 HB1 n0 n1 n2 n3 n4
  obtain ⟨k0, k1, k2, k3⟩ := Y.cells
  simp only at k0 k1 k2 k3
  go_wp2_with fail
  refine (HW.out _).mono ?_
  rintro e w3 ⟨rfl, hb3⟩
  replace X := X.later hb3
  replace Y := Y.later hb3
  have HB3 := Lib.hid (HB2.out.trans (hb3.mono HB2.out.size))
  clear k0 k1 k2 k3 hb3 HB2
  obtain ⟨n0, n1, n2, n3, n4⟩ := X.cells
  obtain ⟨k0, k1, k2, k3⟩ := Y.cells
  simp only at k0 k1 k2 k3
  go_wp2_with fail
  refine (HP.out _ HB3.out).mono ?_
  rintro e w4 ⟨ra, rc, rfl, hrs, _, hb4⟩
  have HB4 := Lib.hid (HB3.out.trans (hb4.mono HB3.out.size))
  have HRS := Lib.hid hrs
  clear n0 n1 n2 n3 n4 k0 k1 k2 k3 X Y hb4 hrs HP HW HB3
  obtain ⟨q1, v1, hq1, hr1, hz1'⟩ := Im.conv_rm w4 T (by omega)
  have HR1 := Lib.hid hr1
  have HZ1 := Lib.hid hz1'
  clear hr1 hz1'
  go_wp2_with (first
    | (at_builtin; refine wpList_app rfl _ _ 22 rfl v1.heap.size 5 i0 .u8 1 Tryz.underlying22 hi hz0 hz1 hz2 (.slice none 0 0) 0 [] rfl (World.ownsRow_nil _ _ _ _) (some ⟨w4.heap.size, 0, none⟩) T.size q1 (bytesOf T) rfl HR1.out.1.1 (by unfold maxLen; omega) (by omega) (Nat.le_refl _) ?_; intro v2 w5 hown2 hgrow2 _; have HB5 : Hid (Below v1.heap.size v1 w5) := Lib.hid ((Below.refl _ _).grown hgrow2 (Nat.le_refl _) (fun j ej => by cases ej)); have HO2 : Hid (w5.ownsRow v1.heap.size 5 1 v2 T.size ((bytesOf T).map (Value.int .u8))) := Lib.hid (by simpa using hown2); clear hown2 hgrow2)
    | (at_builtin; refine wpList_app rfl _ _ 22 rfl v1.heap.size 5 i0 .u8 1 Tryz.underlying22 hi hz0 hz1 hz2 v2 T.size ((bytesOf T).map (Value.int .u8)) rfl HO2.out ra R.length rc R rfl ((HRS.out.below HZ1.out).below HB5.out) (by unfold maxLen; omega) (by omega) HB5.out.size ?_; intro v3 w6 hown3 hgrow3 _; have HB6 : Hid (Below v1.heap.size w5 w6) := Lib.hid ((Below.refl _ _).grown hgrow3 HB5.out.size (fun j ej => (HO2.out.lt j ej).1)); obtain ⟨g3, c3, rfl, hs3, hc3, hd3⟩ := rws_app (l := bytesOf T ++ R) (k := T.size + R.length) (by rw [List.map_append]; exact hown3) HTl.out (by omega); have HS3 := Lib.hid hs3; clear hown3 hgrow3 hs3))
  go_returns
  refine ⟨some ⟨g3, 0, none⟩, c3, by rw [HTl.out]; rfl, ?_, HB4.out.trans ((HZ1.out.mono HB4.out.size).trans ((HB5.out.trans HB6.out).mono (Nat.le_trans HB4.out.size HZ1.out.size)))⟩
  rw [HTl.out]
  exact ⟨HS3.out, hc3, hd3, fun x hx => by
    rcases List.mem_append.1 hx with h | h
    · exact HTB.out x h
    · exact HRB.out x h⟩
end
theorem refImWrite_any (c m kd : Int) (gw gh : Nat) (hc : Nu.I c) (hm : Nu.I m) (a : Option Addr) (n cap : Nat) (L : List Int) (hn : n ≤ 400) (hN : n = gw * gh) (hU : ∀ x ∈ L, Pq.Px.U x) (w : World) (hs : SlK .u64 w a n L) :
    Calls Tryz.prog 14 #[agI c m (gw : Int) (gh : Int) (.slice a n cap), .int .i64 kd] w (ImWrR (Im.writeV c m kd gw gh n L) w) := by
  unfold Im.writeV
  cases ht : Im.tellV c m (gw : Int) (gh : Int) n L kd with
  | false => rw [if_neg (by decide)]; exact refImWrite_no c m kd gw gh hc hm a n cap L (by omega) hU ht w hs
  | true =>
    rw [if_pos rfl]
    by_cases hk : kd < 4
    · rw [if_pos hk]; exact refImWrite_plain c m kd gw gh hc hm a n cap L hn hN hU ht hk w hs
    · rw [if_neg hk]; exact refImWrite_raw c m kd gw gh hc hm a n cap L hn hN hU ht (by omega) w hs
end Go.Proofs.YtkjkepnailamnaaGreat
namespace Go.Proofs.YtkjkepnailamnaaGreat
open Go.RowKit
set_option linter.unusedVariables false
theorem Im.kinds_len (p : Int → Bool) : ∀ n, (Im.kn p n).length ≤ n
  | 0 => Nat.le_refl _
  | n + 1 => by
    have := Im.kinds_len p n
    unfold Im.kn
    split <;> simp <;> omega
theorem ik_sl {c m : Int} {w : World} {e : Ending} {w' : World} {n : Nat} (hn : (Im.kindsV c m).length = n) {l : List Int} (hl : Im.kindsV c m = l) (h : Bt.LsR (Im.kindsV c m) w e w') : ∃ (a : Option Addr) (cap : Nat), e = .returned (.slice a n cap) ∧ SlK .i64 w' a n l ∧ Below w.heap.size w w' := by
  obtain ⟨ad, c, rfl, hr, hb⟩ := h
  obtain ⟨ad', cap', e, ho, _⟩ := ownK_row rfl hr
  cases e
  have hs := ho.sl
  rw [hl] at hs hn ⊢
  rw [hn] at hs ⊢
  exact ⟨ad, c, rfl, hs, hb⟩
theorem Im.kn_pos (p : Int → Bool) (k : Nat) (hk : p ((k : Int) + 1) = true) : ∀ n, k < n → 1 ≤ (Im.kn p n).length
  | 0, h => by omega
  | n + 1, h => by
    unfold Im.kn
    by_cases he : k = n
    · subst he
      first
        | (rw [if_pos hk]; simp)
        | (simp [hk])
    · have := Im.kn_pos p k hk n (by omega)
      split <;> simp <;> omega
theorem Im.kinds_pos {c m : Int} (hc : c = 1 ∨ c = 3) (m0 : 1 ≤ m) (m1 : m ≤ 65535) : 1 ≤ (Im.kindsV c m).length := by
  unfold Im.kindsV
  rcases hc with rfl | rfl
  · refine Im.kn_pos _ 1 ?_ 6 (by omega)
    have hM : Hd.May ⟨2, 1, 1, m⟩ := by unfold Hd.May Hd.bits; simp; omega
    unfold Im.tellK Im.tellsV
    show (decide (Hd.May ⟨2, 1, 1, m⟩) && Hj.same2 1 m 1 m) = true
    rw [decide_eq_true hM, Hj.same2_self]; rfl
  · refine Im.kn_pos _ 2 ?_ 6 (by omega)
    have hM : Hd.May ⟨3, 1, 1, m⟩ := by unfold Hd.May Hd.bits; simp; omega
    unfold Im.tellK Im.tellsV
    show (decide (Hd.May ⟨3, 1, 1, m⟩) && Hj.same2 3 m 3 m) = true
    rw [decide_eq_true hM, Hj.same2_self]; rfl
theorem Im.write_len (c m kd : Int) (gw gh n : Nat) (L : List Int) (hU : ∀ x ∈ L, Pq.Px.U x) (hw : gw ≤ 9) (hh : gh ≤ 9) (hn : L.length = gw * gh) : (Im.writeV c m kd gw gh n L).1.length ≤ 100000 := by
  unfold Im.writeV
  have hL : L.length ≤ 81 := by rw [hn]; exact Nat.mul_le_mul hw hh
  split
  · rename_i ht
    obtain ⟨hHd, hcc, hfa, hFits, -⟩ := Im.tell_get hU ht
    have hFit := Hj.may_fit hHd
    have hTs := Hj.text_size hFit
    rw [Hj.text_len] at hTs
    split
    · show (Im.plainV kd m gw gh L).length ≤ 100000
      unfold Im.plainV
      have hAl := Pl.wAll_len (G := ⟨kd, (gw : Int), (gh : Int), m⟩) hU L.length (Nat.le_refl _)
      rw [List.length_append]; omega
    · show (Im.rawV kd m gw gh L).length ≤ 100000
      unfold Im.rawV
      have hRM : Rw.May ⟨kd, (gw : Int), (gh : Int), m⟩ := ⟨hHd, by simp only; omega⟩
      have hRl := Rw.wRows_len hRM hFits rfl hn gh (Nat.le_refl _)
      have hst : Rw.stride ⟨kd, (gw : Int), (gh : Int), m⟩ ≤ 54 := by
        unfold Rw.stride
        split
        · simp only; omega
        · have h1 := Rw.chan_at ⟨kd, (gw : Int), (gh : Int), m⟩
          have h2 := Rw.wide_at ⟨kd, (gw : Int), (gh : Int), m⟩
          simp only [Int.toNat_natCast]
          rcases h1 with ⟨_, h1⟩ | ⟨_, h1⟩ <;> rcases h2 with ⟨_, h2⟩ | ⟨_, h2⟩ <;> rw [h1, h2] <;> omega
      have hm := Nat.mul_le_mul hh hst
      rw [List.length_append, hRl]; omega
  · simp
theorem Im.good_U {gs : List Int} {c m : Int} (h : ∀ p ∈ gs, Pq.GoodP p c m) : ∀ x ∈ gs, Pq.Px.U x := fun x hx => Pq.goodU (h x hx)
theorem Im.set_bs {w : World} {g N c k : Nat} {l : List Int} {p : Int} (h : Bt.Bs w (some ⟨g, 0, none⟩) N c l) (hk : k < N) (p0 : 0 ≤ p ∧ p ≤ 255) : Bt.Bs (w.setCell ⟨g, k, none⟩ (.int .u8 p)) (some ⟨g, 0, none⟩) N c (l.set k p) := by
  obtain ⟨⟨h1, h2⟩, h3, h4, h5⟩ := h
  refine ⟨⟨by rw [List.length_set]; exact h1, .inr ⟨g, 0, rfl, fun i hi => ?_⟩⟩, h3, h4, fun z hz => ?_⟩
  · rcases h2 with h2 | ⟨b, o, e, hc⟩
    · omega
    · cases e
      have hci := hc i hi
      rw [Nat.zero_add] at hci
      by_cases he : i = k
      · subst he
        have e1 : (w.setCell ⟨g, i, none⟩ (.int .u8 p)).cell? ⟨g, i, none⟩ = some (.int .u8 p) := World.cell?_setCell_same' _ _ _ (by rw [hci]; rfl)
        rw [Nat.zero_add, e1, List.getD_eq_getElem?_getD, List.getElem?_set_self (by omega)]
        rfl
      · rw [Nat.zero_add, List.getD_eq_getElem?_getD, List.getElem?_set_ne (fun e => he e.symm), ← List.getD_eq_getElem?_getD, ← hci]
        have hne : (⟨g, k, none⟩ : Addr) ≠ ⟨g, i, none⟩ := fun e => he (Addr.mk.inj e).2.1.symm
        rw [World.cell?_setCell_other _ _ _ _ hne]
  · rcases List.mem_or_eq_of_mem_set hz with h | h
    · exact h5 z h
    · rw [h]; exact p0
theorem Im.own_bytes {w : World} {base n : Nat} {e : TypeId} {v : Value} {l : List Int} (h : w.ownsRow base e 1 v n (l.map (Value.int .u8))) (hn : l.length = n) (h1 : 1 ≤ n) (hl : ∀ x ∈ l, 0 ≤ x ∧ x ≤ 255) :
    ∃ g cap, v = .slice (some ⟨g, 0, none⟩) n cap ∧ base ≤ g ∧ g < w.heap.size ∧ Bt.Bs w (some ⟨g, 0, none⟩) n cap l ∧ (∀ i, i < n → w.cell? ⟨g, i, none⟩ = some (.int .u8 (l.getD i 0))) ∧ ∀ i, w.frozen? ⟨g, i, none⟩ = false := by
  obtain ⟨ad, cap, rfl, ho, hle⟩ := ownK_row hn h
  have hc9 : cap ≤ 9223372036854775807 := by
    rcases h.2 with ⟨h2, h3⟩ | ⟨g', cap', cur, h2, hg, hc, h4, h5, hs, _⟩
    · cases h2; omega
    · cases h2; unfold maxLen at h5; omega
  have hsl := ho.sl
  rw [hn] at hsl
  rcases ho with h0 | ⟨g, rfl, g1, g2, g3, g4⟩
  · rw [h0] at hn; simp at hn; omega
  · exact ⟨g, cap, rfl, g1, g2, ⟨hsl, hle, hc9, hl⟩, fun i hi => g3 i (by omega), g4⟩
theorem Ib.new_drew (w : World) (t : TypeId) (c m W H : Int) (v : Value) : Ib (w.alloc (.cells #[.int .i64 c, .int .i64 m, .int .i64 W, .int .i64 H, v] t)).drew w.heap.size t c m W H v := Ib.new w t c m W H v
theorem Im.al_drew {w : World} {o : Obj} : (w.alloc o).drew.heap[w.heap.size]? = some o := heapNew _ _
end Go.Proofs.YtkjkepnailamnaaGreat
namespace Go.Proofs.YtkjkepnailamnaaGreat
open Go.RowKit
set_option linter.unusedVariables false
theorem Im.read_good {G : Hd.H} (hm : Rw.May G) {l : List Int} (hl : Pl.Fits G l) {W H : Nat} (hW : G.w = (W : Int)) (hH : G.h = (H : Int)) (hL : l.length = W * H) (more : List Int) : Rw.readV G (Rw.wRows G l W H ++ more) = (l, 0) := by
  have hlen := Rw.wRows_len hm hl hW hL H (Nat.le_refl _)
  have hsz : Hj.size G = ((Rw.wRows G l W H).length : Int) := by
    rw [Rw.size_eq hm, hH, hlen, Int.natCast_mul]
  rw [Rw.readV_ref hm]
  have e : Rw.badV G (Rw.wRows G l W H ++ more) = 0 := by
    rw [Rw.badV_eq, hsz]
    show Rw.badN G (Rw.wRows G l W H ++ more) (Rw.wRows G l W H).length = 0
    rw [← Rw.bad_none hm hl hL (Rw.wRows G l W H).length (Nat.le_refl _)]
    unfold Rw.badN
    rw [List.take_append_of_le_length (Nat.le_refl _)]
  unfold Rw.refV
  rw [e, if_neg (by omega), if_neg (by rw [hsz, List.length_append]; omega), hH]
  show (Rw.rowsV G _ H, _) = _
  rw [Rw.rows_back hm hl hW hL more H (Nat.le_refl _), List.take_of_length_le (by rw [hL, Nat.mul_comm]; exact Nat.le_refl _)]
theorem Hd.parse_pre {l : Hd.L} (hl : l.Ok) : ∀ (x : List Int) (s : Hd.S) (i : Nat), Hd.Good l s → s.p ≤ 3 → ∀ {h : Hd.H} {n e : Int}, Hd.parseF l s i x = (h, n, e) → e ≠ 6 → ∀ m : Nat, (i : Int) + m < n → Hd.parseF l s i (x.take m) = (Hd.none, ((i + min m x.length : Nat) : Int), 6)
  | [], s, i, hg, hp, h, n, e, hx, he, m, hm => by
    rw [Hd.parse_nil i hp] at hx
    simp only [Prod.mk.injEq] at hx
    exact absurd hx.2.2.symm he
  | c :: cs, s, i, hg, hp, h, n, e, hx, he, m, hm => by
    cases m with
    | zero => rw [List.take_zero, Hd.parse_nil i hp]; simp
    | succ m =>
      rw [Hd.parse_cons i c cs hp] at hx
      have hg2 := Hd.good_put hl hg c
      have h5 := hg2.1
      have h3 : (Hd.put l s c).p ≤ 3 := by
        by_cases h4 : (Hd.put l s c).p = 4
        · rw [Hd.parse_over _ _ h4] at hx
          simp only [Prod.mk.injEq] at hx
          omega
        by_cases h5' : (Hd.put l s c).p = 5
        · rw [Hd.parse_wrong _ _ h5'] at hx
          simp only [Prod.mk.injEq] at hx
          omega
        · omega
      rw [List.take_succ_cons, Hd.parse_cons i c _ hp, Hd.parse_pre hl cs (Hd.put l s c) (i + 1) hg2 h3 hx he m (by omega)]
      refine Prod.ext rfl (Prod.ext ?_ rfl)
      simp only [List.length_cons]
      omega
section
variable {c m kd : Int} {gw gh n : Nat} {L : List Int} (hU : ∀ x ∈ L, Pq.Px.U x) (ht : Im.tellV c m (gw : Int) (gh : Int) n L kd = true) (hL : L.length = gw * gh)
include hU ht
theorem Im.head_parse (R : List Int) : Hd.parseV (Hd.limits 4096 65536 65535) (Hd.bytes ⟨kd, (gw : Int), (gh : Int), m⟩ ++ R) = (⟨kd, (gw : Int), (gh : Int), m⟩, ((Hd.bytes ⟨kd, (gw : Int), (gh : Int), m⟩).length : Int), 0) := by
  obtain ⟨hHd, hcc, hfa, hFits, -⟩ := Im.tell_get hU ht
  rw [Hj.limits_id (by omega) (by omega) (by omega) (by omega) (by omega) (by omega)]
  have h := hHd
  unfold Hd.May at h
  simp only at h
  exact Hd.parse_bytes hHd (by simp only; omega) (by simp only; omega) (.inr (by simp only; omega)) R
include hL
theorem Im.parse_raw (hk : 3 < kd) : Im.parseV (Hd.limits 4096 65536 65535) (Im.rawV kd m gw gh L) = ⟨c, m, gw, gh, L, ((Im.rawV kd m gw gh L).length : Int), 0⟩ := by
  obtain ⟨hHd, hcc, hfa, hFits, -⟩ := Im.tell_get hU ht
  have hRM : Rw.May ⟨kd, (gw : Int), (gh : Int), m⟩ := ⟨hHd, by simp only; omega⟩
  have hr := Im.read_good hRM hFits rfl rfl hL []
  rw [List.append_nil] at hr
  have hlen := Rw.wRows_len hRM hFits rfl hL gh (Nat.le_refl _)
  have hsz : Hj.size ⟨kd, (gw : Int), (gh : Int), m⟩ = ((Rw.wRows ⟨kd, (gw : Int), (gh : Int), m⟩ L gw gh).length : Int) := by
    rw [Rw.size_eq hRM, hlen, Int.natCast_mul]
  have hI : Im.readV ⟨kd, (gw : Int), (gh : Int), m⟩ ((Im.rawV kd m gw gh L).drop ((Hd.bytes ⟨kd, (gw : Int), (gh : Int), m⟩).length : Int).toNat) = (L, ((Rw.wRows ⟨kd, (gw : Int), (gh : Int), m⟩ L gw gh).length : Int), 0) := by
    unfold Im.rawV Im.readV
    rw [Int.toNat_natCast, List.drop_left, if_pos hk, hr, hsz]
  have := Im.parse_all (Im.head_parse hU ht (Rw.wRows ⟨kd, (gw : Int), (gh : Int), m⟩ L gw gh)) hI
  have e : Im.rawV kd m gw gh L = Hd.bytes ⟨kd, (gw : Int), (gh : Int), m⟩ ++ Rw.wRows ⟨kd, (gw : Int), (gh : Int), m⟩ L gw gh := rfl
  rw [e, this, hcc, List.length_append]
  simp
theorem Im.parse_plain (hk : kd < 4) : ∃ u : Nat, Im.parseV (Hd.limits 4096 65536 65535) (Im.plainV kd m gw gh L) = ⟨c, m, gw, gh, L, (u : Int), 0⟩ ∧ (Im.plainV kd m gw gh L).length ≤ u + 1 := by
  obtain ⟨hHd, hcc, hfa, hFits, -⟩ := Im.tell_get hU ht
  have hPM : Pl.May ⟨kd, (gw : Int), (gh : Int), m⟩ := ⟨hHd, by simp only; omega⟩
  have hq := Pl.sq_all hPM hFits L.length (Nat.le_refl _)
  rw [List.take_length] at hq
  obtain ⟨u, h1, h2, h3⟩ := Pl.read_all hPM hFits rfl rfl hL (b := 1) (es := []) (fun e he => by cases he) hq
  rw [List.nil_append] at h1
  have hI : Im.readV ⟨kd, (gw : Int), (gh : Int), m⟩ ((Im.plainV kd m gw gh L).drop ((Hd.bytes ⟨kd, (gw : Int), (gh : Int), m⟩).length : Int).toNat) = (L, (u : Int), 0) := by
    unfold Im.plainV Im.readV
    rw [Int.toNat_natCast, List.drop_left, if_neg (by simp only; omega), h1]
  have := Im.parse_all (Im.head_parse hU ht (Pl.wAll ⟨kd, (gw : Int), (gh : Int), m⟩ L L.length)) hI
  have e : Im.plainV kd m gw gh L = Hd.bytes ⟨kd, (gw : Int), (gh : Int), m⟩ ++ Pl.wAll ⟨kd, (gw : Int), (gh : Int), m⟩ L L.length := rfl
  refine ⟨(Hd.bytes ⟨kd, (gw : Int), (gh : Int), m⟩).length + u, ?_, ?_⟩
  · rw [e, this, hcc]
    simp
  · rw [e, List.length_append]
    simp only [List.length_nil] at h3
    omega
theorem Im.parse_cut (hk : 3 < kd) {k : Nat} (hkl : k < (Im.rawV kd m gw gh L).length) : (Im.parseV (Hd.limits 4096 65536 65535) ((Im.rawV kd m gw gh L).take k)).e = 6 := by
  obtain ⟨hHd, hcc, hfa, hFits, -⟩ := Im.tell_get hU ht
  have hRM : Rw.May ⟨kd, (gw : Int), (gh : Int), m⟩ := ⟨hHd, by simp only; omega⟩
  have e : Im.rawV kd m gw gh L = Hd.bytes ⟨kd, (gw : Int), (gh : Int), m⟩ ++ Rw.wRows ⟨kd, (gw : Int), (gh : Int), m⟩ L gw gh := rfl
  rw [e, List.length_append] at hkl
  rw [e]
  by_cases hkh : k < (Hd.bytes ⟨kd, (gw : Int), (gh : Int), m⟩).length
  · have h0 := Im.head_parse hU ht (Rw.wRows ⟨kd, (gw : Int), (gh : Int), m⟩ L gw gh)
    have h1 := Hd.parse_pre (Hd.limits_ok 4096 65536 65535) _ Hd.new 0 (Hd.good_new (Hd.limits_ok 4096 65536 65535)) (by decide) h0 (by decide) k (by omega)
    rw [Im.parse_head (lim := Hd.limits 4096 65536 65535) h1 (by decide)]
    rfl
  · obtain ⟨j, rfl⟩ : ∃ j, k = (Hd.bytes ⟨kd, (gw : Int), (gh : Int), m⟩).length + j := ⟨k - (Hd.bytes ⟨kd, (gw : Int), (gh : Int), m⟩).length, by omega⟩
    rw [List.take_length_add_append]
    have hr := Rw.read_cut hRM hFits rfl rfl hL (k := j) (by omega)
    have hI : Im.readV ⟨kd, (gw : Int), (gh : Int), m⟩ ((Hd.bytes ⟨kd, (gw : Int), (gh : Int), m⟩ ++ (Rw.wRows ⟨kd, (gw : Int), (gh : Int), m⟩ L gw gh).take j).drop ((Hd.bytes ⟨kd, (gw : Int), (gh : Int), m⟩).length : Int).toNat) = ([], Hj.size ⟨kd, (gw : Int), (gh : Int), m⟩, 6) := by
      unfold Im.readV
      rw [Int.toNat_natCast, List.drop_left, if_pos hk, hr]
    rw [Im.parse_read (Im.head_parse hU ht _) hI (by decide)]
    rfl
end
theorem Nu.decV_one (n : Int) : 1 ≤ (Nu.decV n).length := by
  have h := Nu.dig_ne 10 n.natAbs
  have h1 : 1 ≤ (Nu.dig 10 n.natAbs).length := by
    rcases hd : Nu.dig 10 n.natAbs with _ | ⟨x, l⟩
    · exact absurd hd h
    · simp
  unfold Nu.decV Nu.backV
  rw [List.length_reverse, List.length_append, List.length_map]; omega
theorem Im.bytes_seven (h : Hd.H) : 7 ≤ (Hd.bytes h).length := by
  have h1 := Nu.decV_one h.kd
  have h2 := Nu.decV_one h.w
  have h3 := Nu.decV_one h.h
  unfold Hd.bytes
  simp only [List.length_append, List.length_cons, List.length_nil]
  omega
end Go.Proofs.YtkjkepnailamnaaGreat

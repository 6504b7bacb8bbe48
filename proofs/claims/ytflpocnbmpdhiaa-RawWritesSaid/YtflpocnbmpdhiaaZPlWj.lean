/- A raster of digits written by the code, over any memory. Condition: the head may be, at most 80 by 5, at most 240 pixels; the pixels fit. -/
import Derived.Test.YtflpocnbmpdhiaaZgAH
import Derived.Test.YtflpocnbmpdhiaaZPlWi
import Derived.Test.YtflpocnbmpdhiaaZgAB
import Derived.Deep.DeepCutAuto
import Derived.RegionIn
import Derived.Shelf.Strings.BuilderK
namespace Go.Proofs.Ytflpocnbmpdhiaa
open Go.RowKit Go.Shelf
attribute [local go_sem] Oper.semAt_some
set_option linter.unusedVariables false

theorem part_range {m k : Nat} {pre rest : List Nat} (h : List.range m = pre ++ k :: rest) : k = pre.length ∧ pre.length < m := by
  have h1 : pre.length < m := by have := congrArg List.length h; simp at this; omega
  have h2 : (List.range m)[pre.length]? = some k := by rw [h]; simp
  rw [List.getElem?_range h1] at h2
  exact ⟨(Option.some.inj h2).symm, h1⟩
/-- marks of rounds that are over, none of them a row's memory -/
def MkOk (Ds : List Nat) (v : Value) (W : World) : Prop := ∀ d ∈ Ds, W.heap[d]? = some (.deferred (some [])) ∧ v.ownBlock ≠ some d
theorem MkOk.lt {Ds : List Nat} {v : Value} {W : World} (h : MkOk Ds v W) {d : Nat} (hd : d ∈ Ds) : d < W.heap.size := (Array.getElem?_eq_some_iff.1 (h d hd).1).1
theorem MkOk.sep {Ds : List Nat} {v : Value} {W W' : World} {Z : Nat → Prop} (h : MkOk Ds v W) (hs : Sep Z W W') (hz : ∀ d ∈ Ds, ¬ Z d) : MkOk Ds v W' := fun d hd => ⟨(hs.block d (h.lt hd) (hz d hd)).trans (h d hd).1, (h d hd).2⟩
theorem MkOk.low {Ds : List Nat} {v : Value} {W W' : World} (h : MkOk Ds v W) (hb : Below W.heap.size W W') : MkOk Ds v W' := fun d hd => ⟨(hb.block d (h.lt hd)).trans (h d hd).1, (h d hd).2⟩
theorem MkOk.write {Ds : List Nat} {v v' : Value} {W W' : World} {b : Nat} {p u : Value} (h : MkOk Ds v W) (hb : Bd W b p u) (hs : Sep (fun k => k = b ∨ v.ownBlock = some k) W W') (hat : ∀ g, v'.ownBlock = some g → v.ownBlock = some g ∨ W.heap.size ≤ g) : MkOk Ds v' W' := fun d hd => by
  have h1 := h d hd
  have hne : d ≠ b := fun e => by
    have h2 : W.heap[b]? = _ := hb
    rw [e, h2] at h1
    cases h1.1
  refine ⟨(hs.block d (h.lt hd) (fun hz => ?_)).trans h1.1, fun e => ?_⟩
  · rcases hz with hz | hz
    · exact hne hz
    · exact h1.2 hz
  · rcases hat d e with k | k
    · exact h1.2 k
    · have := h.lt hd; omega
theorem leaves_marks {P : Program} {F : Fence} {n : Nat} {fn : Func} {tmps : Array Value} {R : Ending → World → Prop} {v : Value} : ∀ (Ds : List Nat) (w : World), (∀ d ∈ Ds, w.heap[d]? = some (.deferred (some []))) → Ds.Nodup → (∀ w', (results fn tmps).run P w' = .ok v w') →
    (∀ w', w'.os = w.os → w'.tape = w.tape → w'.output = w.output → w'.heap.size = w.heap.size → (∀ k, k ∉ Ds → w'.heap[k]? = w.heap[k]?) → R (.returned v) w') →
    LeavesInM F n P fn tmps R (Ds.map fun D => { target := .collected D, args := #[] }) .returning w
  | [], w, _, _, hres, hR => ⟨_, hres w, hR w rfl rfl rfl rfl fun _ _ => rfl⟩
  | d :: Ds, w, hd, hn, hres, hR => by
    have hn' := List.nodup_cons.1 hn
    refine ⟨by simp, .inl ⟨d, _, rfl, run_takeDeferred (hd d (List.mem_cons_self ..)), ?_⟩⟩
    refine leaves_marks Ds _ (fun d2 h2 => ?_) hn'.2 hres (fun w' a1 a2 a3 a4 a5 => hR w' a1 a2 a3 (by rw [a4]; simp) (fun k hk => ?_))
    · rw [World.putObj_heap_other (fun e => hn'.1 (by cases e; exact h2))]; exact hd d2 (List.mem_cons_of_mem _ h2)
    · rw [a5 k (fun h => hk (List.mem_cons_of_mem _ h)), World.putObj_heap_other (fun e => hk (by cases e; exact List.mem_cons_self ..))]
theorem parts_many (gw c : Nat) (h : 1 ≤ c) : ∃ m, gw ≤ c * m ∧ c * m < gw + c := by
  refine ⟨(gw + c - 1) / c, ?_, ?_⟩
  · have h1 := Nat.div_add_mod (gw + c - 1) c
    have h2 := Nat.mod_lt (gw + c - 1) (show 0 < c by omega)
    omega
  · have h1 := Nat.div_add_mod (gw + c - 1) c
    omega
theorem bl_is {w : World} {base b : Nat} {v : Value} {xs : List Int} (h : Bl w base b v (u8c xs)) (hb : base ≤ b) : Lib.IsBuilder 122 5 base b (Lib.byteCells (xs.map fun n => UInt8.ofNat n.toNat)) w := by
  obtain ⟨⟨p, hp, hd⟩, hr, hne⟩ := h
  rcases hp with rfl | rfl
  · exact .inl ⟨hb, v, hd, hr, hne⟩
  · exact .inr ⟨hb, v, hd, hr, hne⟩
theorem sh_string_k (B b : Nat) (l : List UInt8) (w : World) (h : Lib.IsBuilder 122 5 B b (Lib.byteCells l) w) (hBw : B ≤ w.heap.size) :
    Calls Try.prog 76 #[.pointer (some ⟨b, 0, none⟩)] w fun e w' => e = .returned (.string ⟨l.toArray⟩) ∧ Below B w w' ∧ (∀ d, w.heap[d]? = some (.deferred (some [])) → d ≠ b → w'.heap[d]? = some (.deferred (some []))) :=
  (Any.Builder_String_any_k Sh.lays169 Sh.Builder_Extra_156 B b l w (.of h) hBw).mono fun e w' ⟨h1, _, h2, h3⟩ => ⟨h1, h2, fun d hd hne => h3 d _ hd (fun e => hne (Option.some.inj e)) (fun _ _ e => by cases e)⟩
theorem cell_bb {w w' : World} {m : Nat} {p : Addr} {v : Value} (h : Below m w w') (hp : p.block < m) (hc : w.cell? p = some v) : w'.cell? p = some v := by
  obtain ⟨b, o, q⟩ := p
  exact (World.cell?_of_block (w := w) (a := ⟨b, o, q⟩) (h.block b hp)).trans hc
theorem Bl.low {w w' : World} {base b : Nat} {v : Value} {bs : List Value} (h : Bl w base b v bs) (hb : Below w.heap.size w w') : Bl w' base b v bs :=
  h.sep (Z := fun _ => False) ⟨hb.os, hb.tape, hb.output, hb.size, fun k hk _ => hb.block k hk⟩ (fun h => h) (fun _ _ h => h)
theorem Hj.set_far {w : World} {b tb : Nat} {t : TypeId} {h : Hd.H} {v : Value} (hh : Hb w b t h) (hne : b ≠ tb) : Hb (w.setCell ⟨tb, 0, none⟩ v) b t h := by
  show (w.setCell ⟨tb, 0, none⟩ v).heap[b]? = _
  rw [Go.heap_setCell_other _ _ _ _ hne]
  exact hh
set_option maxRecDepth 100000 in
set_option maxHeartbeats 8000000 in
theorem plWrite_go (pb po N cap : Nat) (l : List Int) (G : Hd.H) (hm : Pl.May G) (hl : Pl.Fits G l) (gw gh c : Nat) (hgw : G.w = (gw : Int)) (hgh : G.h = (gh : Int)) (hN : gw * gh = N) (hw80 : gw ≤ 80) (hh3 : gh ≤ 5) (hN240 : N ≤ 240) (hcap : N ≤ cap) (hcap2 : cap ≤ 9223372036854775807) (sep : List Int) (hs1 : sep.length ≤ 1)
    (hkc : (G.kd = 1 ∧ c = 70 ∧ sep = []) ∨ (¬ G.kd = 1 ∧ c = 1 ∧ sep = [32])) (w : World) (hs : SlK .u64 w (some ⟨pb, po, none⟩) N l) :
    Calls Try.prog 43 #[.slice (some ⟨pb, po, none⟩) N cap, agH G] w fun e w' => e = .returned (.tuple #[.string (strOfNums (Pl.wAll G l N)), .int .i64 0]) ∧ Below w.heap.size w w' := by
  have hmm := hm.m
  have hfm := hformat_any G hm.1
  have hft := fun W h => plFit_any (some ⟨pb, po, none⟩) N cap l G (by omega) (Pl.goodU hl) W h
  rw [Pl.fits_all hm hl] at hft
  have hmy := plMay_any G (may_fit hm)
  rw [decide_eq_true hm] at hmy
  unfold Hj.fm agH at hfm
  unfold agH at hmy
  have HFM := Lib.hid hfm; have HFT := Lib.hid hft; have HMY := Lib.hid hmy
  have HS := Lib.hid hs
  have gN : wrap64 (G.w * G.h) = (N : Int) := by rw [show G.w * G.h = (N : Int) by rw [hgw, hgh, ← hN]; simp, IntWalk.wrap64_in] <;> omega
  obtain ⟨T, hT⟩ : ∃ T, strOfNums (Pl.wAll G l N) = T := ⟨_, rfl⟩
  rw [hT]
  have HT := Lib.hid hT
  have HGW := Lib.hid hgw; have HGH := Lib.hid hgh; have HM := Lib.hid hm; have HL := Lib.hid hl; have HN := Lib.hid hN; have HKC := Lib.hid hkc; have HS1 := Lib.hid hs1
  have gw1 : 1 ≤ gw := by omega
  have gh1 : 1 ≤ gh := by omega
  clear hfm hft hmy hs hT hgw hgh hm hl hN hs1
  unfold agH
  refine calls_of_marks Try.func43 rfl ?_
  simp only [Try.ntmps43, List.size_toArray, List.length_cons, List.length_nil, Nat.reduceAdd, Nat.reduceSub, Array.replicate_succ, Array.replicate_zero, List.push_toArray, List.append_toArray, List.nil_append, List.cons_append]
  go_upto_region 1 with fail
  have h1 := box1' w (.cells #[.int .i64 G.kd, .int .i64 G.w, .int .i64 G.h, .int .i64 G.m] 36)
  have hk := Hb.new w 36 G
  generalize hW : w.alloc (.cells #[.int .i64 G.kd, .int .i64 G.w, .int .i64 G.h, .int .i64 G.m] 36) = w1 at h1 hk
  obtain ⟨kb, hkb⟩ : ∃ k, w.heap.size = k := ⟨_, rfl⟩
  rw [hkb] at hk ⊢
  have HB1 := Lib.hid h1; have HK1 := Lib.hid hk
  have HKB := Lib.hid hkb
  clear h1 hk hW hkb
  obtain ⟨k0, k1, k2, k3⟩ := HK1.out.cells
  go_wp2_with fail
  refine (HMY.out _).mono ?_
  rintro e w2 ⟨rfl, hb⟩
  have HK2 := Lib.hid (HK1.out.later hb); have HB2 := Lib.hid (HB1.out.trans (hb.mono HB1.out.size))
  clear k0 k1 k2 k3 hb HK1 HB1
  obtain ⟨k0, k1, k2, k3⟩ := HK2.out.cells
  go_wp2_with fail
  refine (HFM.out _).mono ?_
  rintro e w3 ⟨rfl, hb⟩
  have HK3 := Lib.hid (HK2.out.later hb); have HB3 := Lib.hid (HB2.out.trans (hb.mono HB2.out.size))
  clear k0 k1 k2 k3 hb HK2 HB2
  go_wp2_with fail
  refine (HFT.out _ (HS.out.below HB3.out)).mono ?_
  rintro e w4 ⟨rfl, hb⟩
  have HK4 := Lib.hid (HK3.out.later hb); have HB4 := Lib.hid (HB3.out.trans (hb.mono HB3.out.size))
  clear hb HK3 HB3 HMY HFM HFT
  go_upto_region 4 with fail
  generalize hW : w4.alloc (.cells #[.string ⟨#[32]⟩] 9) = w5
  have htc : w5.heap[w4.heap.size]? = some (.cells #[.string ⟨#[32]⟩] 9 (0, 0)) := by rw [← hW]; exact World.alloc_heap_new w4 _
  have hx : Below w4.heap.size w4 w5 := by rw [← hW]; exact box1' _ _
  have HK5 := Lib.hid (HK4.out.later hx); have HB5 := Lib.hid (HB4.out.trans (hx.mono HB4.out.size))
  obtain ⟨tb, htb⟩ : ∃ k, w4.heap.size = k := ⟨_, rfl⟩
  have htw : w.heap.size ≤ tb := by rw [← htb]; exact HB4.out.size
  have hkt : kb < tb := by rw [← htb]; exact HK4.out.lt
  rw [htb] at htc ⊢
  clear hW hx htb HK4 HB4
  obtain ⟨k0, k1, k2, k3⟩ := HK5.out.cells
  have ht0 : w5.cell? ⟨tb, 0, none⟩ = some (.string ⟨#[32]⟩) := by simp [World.cell?, htc]
  have htf : w5.frozen? ⟨tb, 0, none⟩ = false := by simp [World.frozen?, htc]
  have htl : tb < w5.heap.size := (Array.getElem?_eq_some_iff.1 htc).1
  go_cut [35] from 33 to 35 (fun sx wx => sx = .bool (G.kd == 1) ∧ wx = w5)
  case first =>
    go_wp2_with fail
    go_meet
    case rel => exact ⟨rfl, rfl⟩
  case rest =>
  obtain ⟨rfl, rfl⟩ := hcut
  go_step
  go_cut [6] from 36 to 36 (fun s6 wx => s6 = .int .i64 c ∧ wx.cell? ⟨tb, 0, none⟩ = some (.string (strOfNums sep)) ∧ tb < wx.heap.size ∧ Hb wx kb 36 G ∧ Below w.heap.size w wx)
  case first =>
    by_cases hk : G.kd = 1
    · have hk1 : (G.kd == 1) = true := by simp [hk]
      have HC1 : Hid (c = 70 ∧ sep = []) := Lib.hid (by have := HKC.out; rcases this with h | h; exact h.2; exact absurd hk h.1)
      have HKN := Lib.hid hk
      clear hk
      go_wp2_with fail
      go_meet
      case rel =>
        have hne : kb ≠ tb := by omega
        refine ⟨by rw [HC1.out.1]; rfl, ?_, by simp [World.setCell]; omega, ?_, HB5.out.setCell (p := ⟨tb, 0, none⟩) htw _⟩
        · rw [HC1.out.2]
          have h' := Go.heap_setCell_same wc tb 0 _ _ (.string ⟨#[]⟩) htc
          simp [World.cell?, h']; rfl
        · exact Hj.set_far HK5.out hne
    · have hk1 : (G.kd == 1) = false := by simpa using hk
      have HC1 : Hid (c = 1 ∧ sep = [32]) := Lib.hid (by have := HKC.out; rcases this with h | h; exact absurd h.1 hk; exact h.2)
      clear hk
      go_wp2_with fail
      go_meet
      case rel => exact ⟨by rw [HC1.out.1]; rfl, by rw [HC1.out.2]; exact ht0, htl, HK5.out, HB5.out⟩
  case rest =>
    obtain ⟨rfl, ht0, htl, hk6, hb6⟩ := hcut
    clear k0 k1 k2 k3 htf htc hkt
    go_upto_region 7 with fail
    have hI : Bd (wc.alloc (.cells #[.pointer none, .slice none 0 0] 122)) wc.heap.size (.pointer none) (.slice none 0 0) := World.alloc_heap_new wc _
    have hx := box1' wc (.cells #[.pointer none, .slice none 0 0] 122)
    generalize hW : wc.alloc (.cells #[.pointer none, .slice none 0 0] 122) = W0 at hI hx
    obtain ⟨bb, hbb⟩ : ∃ k, wc.heap.size = k := ⟨_, rfl⟩
    rw [hbb] at hI ⊢
    have HL0 : Hid (Bl W0 bb bb (.slice none 0 0) (u8c (Pl.wAll G l (0 * gw)))) := by rw [Nat.zero_mul]; exact Lib.hid ⟨⟨_, .inl rfl, hI⟩, World.ownsRow_nil _ _ _ _, by simp [Value.ownBlock]⟩
    have HK0 := Lib.hid (hk6.later hx)
    have HT0 := Lib.hid (cell_later hx ht0)
    have HB0 := Lib.hid (hb6.trans (hx.mono hb6.size))
    have hwb : w.heap.size ≤ bb := by rw [← hbb]; exact hb6.size
    have htb2 : tb < bb := by rw [← hbb]; exact htl
    have hkb2 : kb < bb := by rw [← hbb]; exact hk6.lt
    have hbW0 : bb < W0.heap.size := by rw [← hW]; simp; omega
    have HD0 : Hid (Below bb W0 W0) := .refl _ _
    have HM0 : Hid (MkOk [] (.slice none 0 0) W0) := Lib.hid (fun d hd => by cases hd)
    have hpb : pb < bb := by
      have h0 : 0 < N := by rw [← HN.out]; exact Nat.mul_pos gw1 gh1
      rcases HS.out.2 with h | ⟨b, o, e, hc⟩
      · omega
      · cases e
        have h1 : pb < w.heap.size := block_lt_of_cell (hc 0 h0)
        have h2 : w.heap.size ≤ bb := hwb
        omega
    have HS0 := Lib.hid (HS.out.below HB0.out)
    have hc1 : 1 ≤ c := by have := HKC.out; omega
    have hc70 : c ≤ 70 := by have := HKC.out; omega
    clear hI hx hW hbb ht0 htl hk6 hb6
    obtain ⟨k0, k1, k2, k3⟩ := HK0.out.cells
    rw [HGH.out] at k2
    go_wp2_with fail
    clear k0 k1 k2 k3
    refine wp_loop_rounds 6 ?_
    rw [rounds_succ]
    have hyl : (0 : Int) < (gh : Int) := by omega
    obtain ⟨n0, n1, n2, n3⟩ := HK0.out.cells
    rw [HGW.out] at n1
    rw [HGH.out] at n2
    have k0 := cell_bb HD0.out hkb2 n0
    have k1 := cell_bb HD0.out hkb2 n1
    have k2 := cell_bb HD0.out hkb2 n2
    clear n0 n1 n2 n3
    obtain ⟨F0, hF0⟩ : ∃ F, 0 * gw = F := ⟨_, rfl⟩
    have hT0 : (0 + 1) * gw = F0 + gw := by rw [← hF0, Nat.add_mul, Nat.one_mul]
    have hTN0 : F0 + gw ≤ N := by rw [← hT0, ← HN.out, Nat.mul_comm gw gh]; exact Nat.mul_le_mul_right _ (by omega)
    have q1 : IntKind.i64.wrap ((0 : Int) * (gw : Int)) = (F0 : Int) := by rw [IntWalk.i64_in] <;> omega
    have q2 : IntKind.i64.wrap (((0 : Int) + 1) * (gw : Int)) = ((F0 + gw : Nat) : Int) := by rw [IntWalk.i64_in] <;> omega
    have q3 : ((0 : Int) + 1) * (gw : Int) = ((F0 + gw : Nat) : Int) := by omega
    have q4 : (0 : Int) * (gw : Int) = (F0 : Int) := by omega
    go_wp2_with fail
    go_cut [10, 11] from 41 to 49 (fun s10 s11 wx => s10 = .int .i64 F0 ∧ s11 = .int .i64 ((F0 + gw : Nat) : Int) ∧ Below W0.heap.size W0 wx)
    case first =>
      go_region
      all_goals
        go_wp2_with fail
        go_meet
        case rel => exact ⟨by first | rfl | (congr 1; done) | (congr 1; omega), by first | rfl | (congr 1; done) | (congr 1; omega), by go_grown⟩
    case rest =>
      obtain ⟨rfl, rfl, hb⟩ := hcut
      have HLx := Lib.hid (Bl.low (show Bl W0 bb bb _ (u8c (Pl.wAll G l F0)) from hF0 ▸ HL0.out) hb)
      have HMx := Lib.hid (HM0.out.low hb)
      have HDx := Lib.hid (HD0.out.trans (hb.mono (Nat.le_trans (Nat.le_of_lt hbW0) HD0.out.size)))
      have fT1 : (F0 : Int) ≤ ((F0 + gw : Nat) : Int) := by omega
      have fT2 : ((F0 + gw : Nat) : Int) ≤ (cap : Int) := by omega
      have fT3 : ¬ cap = F0 := by omega
      have fT4 : (F0 : Int) ≤ (cap : Int) := by omega
      have fT5 : (0 : Int) ≤ (F0 : Int) := by omega
      clear hb k0 k1 k2 q1 q2 q3 q4
      go_wp2_with fail
      refine (ch_made (some ⟨pb, po + F0, none⟩) gw gw c hc1 _).mono ?_
      rintro e w7 ⟨nb, bq, rfl, hne, l1, l2, l3, l4, cn, cb, hb7⟩
      have hs6 := HDx.out.size
      have HLr := Lib.hid (HLx.out.low hb7)
      have HMr := Lib.hid (HMx.out.low hb7)
      have hmk := fun d hd => HMx.out.lt (d := d) hd
      have HDr := Lib.hid (HDx.out.trans (hb7.mono (by omega)))
      have hvr := fun g e => (HLx.out.row.lt g e).2
      obtain ⟨m, hm1, hm2⟩ := parts_many gw c hc1
      have hGV := Bt.ch_gives gw m c gw pb (po + F0) nb bq hc1 gw1 hm1 hm2 (Nat.le_refl _) (by omega) (by omega) (by omega) hne w7 2 (by omega) cn cb
      have hs7 := hb7.size
      have hz7 : ∀ g, g < wc.heap.size → ¬ ((g = nb ∨ g = bq) ∨ g = w7.heap.size ∨ g = w7.heap.size + 1) := fun g hg => by omega
      have hzb : ¬ ((bb = nb ∨ bb = bq) ∨ bb = w7.heap.size ∨ bb = w7.heap.size + 1) := hz7 bb (by omega)
      have hlow : ∀ g, g < bb → ¬ ((g = nb ∨ g = bq) ∨ g = w7.heap.size ∨ g = w7.heap.size + 1) := fun g hg => hz7 g (by omega)
      clear cn cb hb7
      go_wp2_with fail
      refine range_wp (gf := 94) (lb := #[.pointer (some ⟨nb, 0, none⟩), .pointer (some ⟨bq, 0, none⟩)]) rfl (enters_of Try.func94 (by kernel_rfl) rfl)
        hGV (by rintro k (rfl | rfl) <;> assumption) (fun _ => rfl)
        (fun pre W' => ∃ v', Bl W' bb bb v' (u8c (Pl.wAll G l (F0 + min (c * pre.length) gw))) ∧ (∀ g, v'.ownBlock = some g → ¬ ((g = nb ∨ g = bq) ∨ g = w7.heap.size ∨ g = w7.heap.size + 1)) ∧ MkOk [] v' W' ∧ Below bb W0 W')
        (fun _ _ _ => False) ?hI0 (fun _ _ _ _ hh _ => hh) ⟨_, by simpa using HLr.out, fun g hg => hz7 g (hvr g hg), HMr.out, HDr.out⟩ ?_ ?assign0 ?body0 ?done0 ?stop0
      case hI0 =>
        rintro p A B' ⟨v', h1, h2, h4, h3⟩ hs
        exact ⟨v', h1.sep hs hzb h2, h2, h4.sep hs (fun d hd => hz7 d (hmk d hd)), h3.trans (hs.below (m := bb) (by have := h3.size; omega) hlow)⟩
      case assign0 =>
        intro l x W K hK
        unfold Bt.encCh
        gi_wp2
        exact hK
      case body0 =>
        rintro ll pre k rest W' hx hlt ⟨v', hbl, hvz, hmo, hbd⟩
        obtain ⟨rfl, hkm⟩ := part_range hx
        obtain ⟨k, hkk⟩ : ∃ k, pre.length = k := ⟨_, rfl⟩
        rw [hkk] at hbl hkm ⊢
        have hck : c * k < gw := by
          have h1 : c * (k + 1) ≤ c * m := Nat.mul_le_mul_left _ hkm
          rw [Nat.mul_succ] at h1; omega
        have hRP := Pl.row_part HM.out HL.out HGW.out (by rw [HS0.out.1, HN.out]) HKC.out hF0 (show 0 < gh by omega) hck
        have hlen := Pl.wAll_len (G := G) (Pl.goodU HL.out) (F0 + (c * k + min c (gw - c * k))) (by rw [HS0.out.1]; omega)
        obtain ⟨p, hp⟩ : ∃ p, min c (gw - c * k) = p := ⟨_, rfl⟩
        have hpc : Bt.partCh gw c k = p := hp
        rw [hpc]
        have hnx : min (c * (k + 1)) gw = c * k + p := by rw [Nat.mul_succ]; omega
        rw [show min (c * k) gw = c * k by omega] at hbl
        obtain ⟨q, hq⟩ : ∃ q, c * k = q := ⟨_, rfl⟩
        rw [hq] at hbl hRP hck hlen hp hnx ⊢
        have HNX := Lib.hid hnx; have HKK := Lib.hid hkk
        obtain ⟨pt, hpt⟩ : ∃ pt, (l.drop (F0 + q)).take p = pt := ⟨_, rfl⟩
        rw [hp] at hRP hlen
        rw [hpt] at hRP
        have hll := HS0.out.1
        have hpl : pt.length = p := by rw [← hpt, List.length_take, List.length_drop]; omega
        have hpf : Pl.Fits G pt := fun r hr => HL.out r (List.mem_of_mem_drop (List.mem_of_mem_take (hpt ▸ hr)))
        have hsp : SlK .u64 W' (some ⟨pb, po + F0 + q, none⟩) p pt := by
          refine ⟨hpl, .inr ⟨pb, _, rfl, fun j hj => ?_⟩⟩
          rcases HS0.out.2 with h | ⟨b, o, e, hc⟩
          · omega
          · cases e
            have h1 := cell_bb hbd (p := ⟨pb, po + (F0 + q + j), none⟩) hpb (hc (F0 + q + j) (by omega))
            rw [show po + F0 + q + j = po + (F0 + q + j) by omega, h1, ← hpt, List.getD_eq_getElem?_getD, List.getD_eq_getElem?_getD, List.getElem?_take_of_lt hj, List.getElem?_drop]
        have ht : W'.cell? ⟨tb, 0, none⟩ = some (.string (strOfNums sep)) := cell_bb hbd htb2 HT0.out
        have HLN := Lib.hid (plLine_any (some ⟨pb, po + F0 + q, none⟩) p p pt G hpf (by omega) sep HS1.out W' hsp)
        obtain ⟨X, hX⟩ : ∃ X, Pl.joinI sep ((pt.flatMap Pq.Px.smp).map Nu.decV) ++ [10] = X := ⟨_, rfl⟩
        rw [hX] at HLN hRP
        have hXl : (Pl.wAll G l (F0 + q)).length + X.length ≤ 202 * 240 := by rw [hRP, List.length_append] at hlen; omega
        have HRP := Lib.hid hRP
        obtain ⟨LT, hLT⟩ : ∃ LT, strOfNums X = LT := ⟨_, rfl⟩
        have hLTs : (u8c (Pl.wAll G l (F0 + q))).length + LT.size ≤ 140737488355328 := by rw [u8c_len, ← hLT, strOfNums_size]; omega
        rw [hLT] at HLN
        have HLT := Lib.hid hLT
        have HBL := Lib.hid hbl; have HVZ := Lib.hid hvz; have HMO := Lib.hid hmo; have HBD := Lib.hid hbd
        have hsz' := hbd.size
        clear hx hRP hp hpc hnx hpt hpf hsp hX hXl hLT hbl hvz hmo hbd hll hpl hlen hkk
        gi_wp2_with (first
          | (refine ⟨trivial, ?_⟩; gi_at_call 75; refine (((callsIn_wide (n := _)).2 HLN.out).inRound ll).mono ?_; rintro e w8 ⟨rfl, hb8⟩; have HB8 := Lib.hid hb8; have HBL8 := Lib.hid (HBL.out.low hb8); have HMO8 := Lib.hid (HMO.out.low hb8); have hs8 := hb8.size; clear hb8)
          | (refine ⟨trivial, ?_⟩; gi_at_call 74; refine (((callsIn_wide (n := _)).2 (write_any bb bb v' _ LT w8 HBL8.out hLTs (by omega))).inRound ll).mono ?_; rintro e w9 ⟨v9, rfl, hbl9, hsep9, hat9⟩; have HBL9 := Lib.hid hbl9; have HSEP9 := Lib.hid hsep9; have HAT9 := Lib.hid hat9; clear hbl9 hsep9 hat9))
        obtain ⟨pw, -, hbd8⟩ := HBL8.out.bd
        have hzz : ∀ g, ((g = nb ∨ g = bq) ∨ g = w7.heap.size ∨ g = w7.heap.size + 1) → g < W'.heap.size := fun g hg => by omega
        refine ⟨(Hold.below HB8.out hzz).trans ⟨HSEP9.out.size, fun g hg hz => HSEP9.out.block g hg (fun h => by rcases h with h | h; exact hzb (h ▸ hz); exact HVZ.out g h hz)⟩, v9, ?_, ?_, HMO8.out.write hbd8 HSEP9.out HAT9.out, ?_⟩
        · have h := HBL9.out
          rw [← HLT.out] at h
          rw [List.length_append, List.length_singleton, HKK.out, HNX.out, HRP.out, u8c_app]
          exact h
        · intro g hg hz
          rcases HAT9.out g hg with h | h
          · exact HVZ.out g h hz
          · have := hzz g hz; omega
        · have h1 : Below bb W' w8 := HB8.out.mono (by omega)
          have h2 : Below bb w8 w9 := HSEP9.out.below (m := bb) (by omega) (fun g hg h => by
            rcases h with h | h
            · omega
            · have := (HBL8.out.row.lt g h).1; omega)
          exact (HBD.out.trans h1).trans h2
      case done0 =>
        rintro W1 ⟨v1, hbl, hvz, hmo, hbd⟩ hK
        obtain ⟨d0, hd⟩ : ∃ d, w7.heap.size = d := ⟨_, rfl⟩
        have hdb0 : bb < d0 := by have := HDr.out.size; omega
        have hnd0 : ∀ e ∈ [], e < d0 := fun e he => by have := hmk e he; omega
        rw [hd] at hK hvz ⊢
        have HM1 : Hid (MkOk [d0] v1 W1) := Lib.hid (fun e he => by
          rcases List.mem_cons.1 he with rfl | he
          · exact ⟨hK, fun h => hvz _ h (.inr (.inl rfl))⟩
          · exact hmo e he)
        have HL1 : Hid (Bl W1 bb bb v1 (u8c (Pl.wAll G l (1 * gw)))) := by
          have h := hbl
          rw [List.length_range, show min (c * m) gw = gw by omega, ← hT0] at h
          exact Lib.hid h
        have HD1 := Lib.hid hbd
        clear hbl hvz hmo hbd hK hd hGV hz7 hzb hlow hmk hvr l1 l2 l3 l4 hne hm1 hm2 hs6 hs7 HLr HMr HDr HLx HMx HDx fT1 fT2 fT3 fT4 fT5 hyl
        by_cases hg1 : gh = 1
        · go_wp2_with fail
          rw [rounds_succ]
          have hyl : ¬ (1 : Int) < (gh : Int) := by omega
          go_wp2_with fail
          refine (sh_string_k bb bb _ _ (bl_is HL1.out (Nat.le_refl _)) (by have := HD1.out.size; omega)).mono ?_
          rintro e w9 ⟨rfl, hb9, hk9⟩
          have hdne : ∀ d ∈ [d0], d ≠ bb := fun d hd e => by simp at hd; omega
          have HMF := Lib.hid (fun d (hd : d ∈ [d0]) => hk9 d (HM1.out d hd).1 (hdne d hd))
          have HB9 := Lib.hid hb9
          have HTT : Hid ((⟨((Pl.wAll G l (1 * gw)).map fun n => UInt8.ofNat n.toNat).toArray⟩ : ByteArray) = T) := by
            rw [← HT.out, ← HN.out, show gh = 1 by omega, Nat.mul_comm]; exact rfl
          obtain ⟨TT, hTT⟩ : ∃ TT, (⟨((Pl.wAll G l (1 * gw)).map fun n => UInt8.ofNat n.toNat).toArray⟩ : ByteArray) = TT := ⟨_, rfl⟩
          rw [hTT] at HTT ⊢
          clear hb9 hk9 hTT
          go_wp2_with fail
          refine leaves_marks [d0] w9 HMF.out (by simp) (fun w' => results_tmp2 rfl _ _ _) (fun w' a1 a2 a3 a4 a5 => ?_)
          refine ⟨by first | (rw [HTT.out]; done) | (rw [HTT.out]; rfl), HB0.out.trans (((HD1.out.trans HB9.out).trans ⟨a1, a2, a3, by omega, fun k hk => a5 k (fun h => by simp at h; omega)⟩).mono hwb)⟩
        · go_wp2_with fail
          rw [rounds_succ]
          have hyl : (1 : Int) < (gh : Int) := by omega
          obtain ⟨n0, n1, n2, n3⟩ := HK0.out.cells
          rw [HGW.out] at n1
          rw [HGH.out] at n2
          have k0 := cell_bb HD1.out hkb2 n0
          have k1 := cell_bb HD1.out hkb2 n1
          have k2 := cell_bb HD1.out hkb2 n2
          clear n0 n1 n2 n3
          obtain ⟨F1, hF1⟩ : ∃ F, 1 * gw = F := ⟨_, rfl⟩
          have hT1 : (1 + 1) * gw = F1 + gw := by rw [← hF1, Nat.add_mul, Nat.one_mul]
          have hTN1 : F1 + gw ≤ N := by rw [← hT1, ← HN.out, Nat.mul_comm gw gh]; exact Nat.mul_le_mul_right _ (by omega)
          have q1 : IntKind.i64.wrap ((1 : Int) * (gw : Int)) = (F1 : Int) := by rw [IntWalk.i64_in] <;> omega
          have q2 : IntKind.i64.wrap (((1 : Int) + 1) * (gw : Int)) = ((F1 + gw : Nat) : Int) := by rw [IntWalk.i64_in] <;> omega
          have q3 : ((1 : Int) + 1) * (gw : Int) = ((F1 + gw : Nat) : Int) := by omega
          have q4 : (1 : Int) * (gw : Int) = (F1 : Int) := by omega
          go_wp2_with fail
          go_cut [10, 11] from 41 to 49 (fun s10 s11 wx => s10 = .int .i64 F1 ∧ s11 = .int .i64 ((F1 + gw : Nat) : Int) ∧ Below W1.heap.size W1 wx)
          case first =>
            go_region
            all_goals
              go_wp2_with fail
              go_meet
              case rel => exact ⟨by first | rfl | (congr 1; done) | (congr 1; omega), by first | rfl | (congr 1; done) | (congr 1; omega), by go_grown⟩
          case rest =>
            obtain ⟨rfl, rfl, hb⟩ := hcut
            have HLx := Lib.hid (Bl.low (show Bl W1 bb bb _ (u8c (Pl.wAll G l F1)) from hF1 ▸ HL1.out) hb)
            have HMx := Lib.hid (HM1.out.low hb)
            have HDx := Lib.hid (HD1.out.trans (hb.mono (Nat.le_trans (Nat.le_of_lt hbW0) HD1.out.size)))
            have fT1 : (F1 : Int) ≤ ((F1 + gw : Nat) : Int) := by omega
            have fT2 : ((F1 + gw : Nat) : Int) ≤ (cap : Int) := by omega
            have fT3 : ¬ cap = F1 := by omega
            have fT4 : (F1 : Int) ≤ (cap : Int) := by omega
            have fT5 : (0 : Int) ≤ (F1 : Int) := by omega
            clear hb k0 k1 k2 q1 q2 q3 q4
            go_wp2_with fail
            refine (ch_made (some ⟨pb, po + F1, none⟩) gw gw c hc1 _).mono ?_
            rintro e w7 ⟨nb, bq, rfl, hne, l1, l2, l3, l4, cn, cb, hb7⟩
            have hs6 := HDx.out.size
            have HLr := Lib.hid (HLx.out.low hb7)
            have HMr := Lib.hid (HMx.out.low hb7)
            have hmk := fun d hd => HMx.out.lt (d := d) hd
            have HDr := Lib.hid (HDx.out.trans (hb7.mono (by omega)))
            have hvr := fun g e => (HLx.out.row.lt g e).2
            obtain ⟨m, hm1, hm2⟩ := parts_many gw c hc1
            have hGV := Bt.ch_gives gw m c gw pb (po + F1) nb bq hc1 gw1 hm1 hm2 (Nat.le_refl _) (by omega) (by omega) (by omega) hne w7 2 (by omega) cn cb
            have hs7 := hb7.size
            have hz7 : ∀ g, g < wc.heap.size → ¬ ((g = nb ∨ g = bq) ∨ g = w7.heap.size ∨ g = w7.heap.size + 1) := fun g hg => by omega
            have hzb : ¬ ((bb = nb ∨ bb = bq) ∨ bb = w7.heap.size ∨ bb = w7.heap.size + 1) := hz7 bb (by omega)
            have hlow : ∀ g, g < bb → ¬ ((g = nb ∨ g = bq) ∨ g = w7.heap.size ∨ g = w7.heap.size + 1) := fun g hg => hz7 g (by omega)
            clear cn cb hb7
            go_wp2_with fail
            refine range_wp (gf := 94) (lb := #[.pointer (some ⟨nb, 0, none⟩), .pointer (some ⟨bq, 0, none⟩)]) rfl (enters_of Try.func94 (by kernel_rfl) rfl)
              hGV (by rintro k (rfl | rfl) <;> assumption) (fun _ => rfl)
              (fun pre W' => ∃ v', Bl W' bb bb v' (u8c (Pl.wAll G l (F1 + min (c * pre.length) gw))) ∧ (∀ g, v'.ownBlock = some g → ¬ ((g = nb ∨ g = bq) ∨ g = w7.heap.size ∨ g = w7.heap.size + 1)) ∧ MkOk [d0] v' W' ∧ Below bb W0 W')
              (fun _ _ _ => False) ?hI1 (fun _ _ _ _ hh _ => hh) ⟨_, by simpa using HLr.out, fun g hg => hz7 g (hvr g hg), HMr.out, HDr.out⟩ ?_ ?assign1 ?body1 ?done1 ?stop1
            case hI1 =>
              rintro p A B' ⟨v', h1, h2, h4, h3⟩ hs
              exact ⟨v', h1.sep hs hzb h2, h2, h4.sep hs (fun d hd => hz7 d (hmk d hd)), h3.trans (hs.below (m := bb) (by have := h3.size; omega) hlow)⟩
            case assign1 =>
              intro l x W K hK
              unfold Bt.encCh
              gi_wp2
              exact hK
            case body1 =>
              rintro ll pre k rest W' hx hlt ⟨v', hbl, hvz, hmo, hbd⟩
              obtain ⟨rfl, hkm⟩ := part_range hx
              obtain ⟨k, hkk⟩ : ∃ k, pre.length = k := ⟨_, rfl⟩
              rw [hkk] at hbl hkm ⊢
              have hck : c * k < gw := by
                have h1 : c * (k + 1) ≤ c * m := Nat.mul_le_mul_left _ hkm
                rw [Nat.mul_succ] at h1; omega
              have hRP := Pl.row_part HM.out HL.out HGW.out (by rw [HS0.out.1, HN.out]) HKC.out hF1 (show 1 < gh by omega) hck
              have hlen := Pl.wAll_len (G := G) (Pl.goodU HL.out) (F1 + (c * k + min c (gw - c * k))) (by rw [HS0.out.1]; omega)
              obtain ⟨p, hp⟩ : ∃ p, min c (gw - c * k) = p := ⟨_, rfl⟩
              have hpc : Bt.partCh gw c k = p := hp
              rw [hpc]
              have hnx : min (c * (k + 1)) gw = c * k + p := by rw [Nat.mul_succ]; omega
              rw [show min (c * k) gw = c * k by omega] at hbl
              obtain ⟨q, hq⟩ : ∃ q, c * k = q := ⟨_, rfl⟩
              rw [hq] at hbl hRP hck hlen hp hnx ⊢
              have HNX := Lib.hid hnx; have HKK := Lib.hid hkk
              obtain ⟨pt, hpt⟩ : ∃ pt, (l.drop (F1 + q)).take p = pt := ⟨_, rfl⟩
              rw [hp] at hRP hlen
              rw [hpt] at hRP
              have hll := HS0.out.1
              have hpl : pt.length = p := by rw [← hpt, List.length_take, List.length_drop]; omega
              have hpf : Pl.Fits G pt := fun r hr => HL.out r (List.mem_of_mem_drop (List.mem_of_mem_take (hpt ▸ hr)))
              have hsp : SlK .u64 W' (some ⟨pb, po + F1 + q, none⟩) p pt := by
                refine ⟨hpl, .inr ⟨pb, _, rfl, fun j hj => ?_⟩⟩
                rcases HS0.out.2 with h | ⟨b, o, e, hc⟩
                · omega
                · cases e
                  have h1 := cell_bb hbd (p := ⟨pb, po + (F1 + q + j), none⟩) hpb (hc (F1 + q + j) (by omega))
                  rw [show po + F1 + q + j = po + (F1 + q + j) by omega, h1, ← hpt, List.getD_eq_getElem?_getD, List.getD_eq_getElem?_getD, List.getElem?_take_of_lt hj, List.getElem?_drop]
              have ht : W'.cell? ⟨tb, 0, none⟩ = some (.string (strOfNums sep)) := cell_bb hbd htb2 HT0.out
              have HLN := Lib.hid (plLine_any (some ⟨pb, po + F1 + q, none⟩) p p pt G hpf (by omega) sep HS1.out W' hsp)
              obtain ⟨X, hX⟩ : ∃ X, Pl.joinI sep ((pt.flatMap Pq.Px.smp).map Nu.decV) ++ [10] = X := ⟨_, rfl⟩
              rw [hX] at HLN hRP
              have hXl : (Pl.wAll G l (F1 + q)).length + X.length ≤ 202 * 240 := by rw [hRP, List.length_append] at hlen; omega
              have HRP := Lib.hid hRP
              obtain ⟨LT, hLT⟩ : ∃ LT, strOfNums X = LT := ⟨_, rfl⟩
              have hLTs : (u8c (Pl.wAll G l (F1 + q))).length + LT.size ≤ 140737488355328 := by rw [u8c_len, ← hLT, strOfNums_size]; omega
              rw [hLT] at HLN
              have HLT := Lib.hid hLT
              have HBL := Lib.hid hbl; have HVZ := Lib.hid hvz; have HMO := Lib.hid hmo; have HBD := Lib.hid hbd
              have hsz' := hbd.size
              clear hx hRP hp hpc hnx hpt hpf hsp hX hXl hLT hbl hvz hmo hbd hll hpl hlen hkk
              gi_wp2_with (first
                | (refine ⟨trivial, ?_⟩; gi_at_call 75; refine (((callsIn_wide (n := _)).2 HLN.out).inRound ll).mono ?_; rintro e w8 ⟨rfl, hb8⟩; have HB8 := Lib.hid hb8; have HBL8 := Lib.hid (HBL.out.low hb8); have HMO8 := Lib.hid (HMO.out.low hb8); have hs8 := hb8.size; clear hb8)
                | (refine ⟨trivial, ?_⟩; gi_at_call 74; refine (((callsIn_wide (n := _)).2 (write_any bb bb v' _ LT w8 HBL8.out hLTs (by omega))).inRound ll).mono ?_; rintro e w9 ⟨v9, rfl, hbl9, hsep9, hat9⟩; have HBL9 := Lib.hid hbl9; have HSEP9 := Lib.hid hsep9; have HAT9 := Lib.hid hat9; clear hbl9 hsep9 hat9))
              obtain ⟨pw, -, hbd8⟩ := HBL8.out.bd
              have hzz : ∀ g, ((g = nb ∨ g = bq) ∨ g = w7.heap.size ∨ g = w7.heap.size + 1) → g < W'.heap.size := fun g hg => by omega
              refine ⟨(Hold.below HB8.out hzz).trans ⟨HSEP9.out.size, fun g hg hz => HSEP9.out.block g hg (fun h => by rcases h with h | h; exact hzb (h ▸ hz); exact HVZ.out g h hz)⟩, v9, ?_, ?_, HMO8.out.write hbd8 HSEP9.out HAT9.out, ?_⟩
              · have h := HBL9.out
                rw [← HLT.out] at h
                rw [List.length_append, List.length_singleton, HKK.out, HNX.out, HRP.out, u8c_app]
                exact h
              · intro g hg hz
                rcases HAT9.out g hg with h | h
                · exact HVZ.out g h hz
                · have := hzz g hz; omega
              · have h1 : Below bb W' w8 := HB8.out.mono (by omega)
                have h2 : Below bb w8 w9 := HSEP9.out.below (m := bb) (by omega) (fun g hg h => by
                  rcases h with h | h
                  · omega
                  · have := (HBL8.out.row.lt g h).1; omega)
                exact (HBD.out.trans h1).trans h2
            case done1 =>
              rintro W2 ⟨v2, hbl, hvz, hmo, hbd⟩ hK
              obtain ⟨d1, hd⟩ : ∃ d, w7.heap.size = d := ⟨_, rfl⟩
              have hdb1 : bb < d1 := by have := HDr.out.size; omega
              have hnd1 : ∀ e ∈ [d0], e < d1 := fun e he => by have := hmk e he; omega
              rw [hd] at hK hvz ⊢
              have HM2 : Hid (MkOk [d1, d0] v2 W2) := Lib.hid (fun e he => by
                rcases List.mem_cons.1 he with rfl | he
                · exact ⟨hK, fun h => hvz _ h (.inr (.inl rfl))⟩
                · exact hmo e he)
              have HL2 : Hid (Bl W2 bb bb v2 (u8c (Pl.wAll G l (2 * gw)))) := by
                have h := hbl
                rw [List.length_range, show min (c * m) gw = gw by omega, ← hT1] at h
                exact Lib.hid h
              have HD2 := Lib.hid hbd
              clear hbl hvz hmo hbd hK hd hGV hz7 hzb hlow hmk hvr l1 l2 l3 l4 hne hm1 hm2 hs6 hs7 HLr HMr HDr HLx HMx HDx fT1 fT2 fT3 fT4 fT5 hyl
              by_cases hg2 : gh = 2
              · go_wp2_with fail
                rw [rounds_succ]
                have hyl : ¬ (2 : Int) < (gh : Int) := by omega
                go_wp2_with fail
                refine (sh_string_k bb bb _ _ (bl_is HL2.out (Nat.le_refl _)) (by have := HD2.out.size; omega)).mono ?_
                rintro e w9 ⟨rfl, hb9, hk9⟩
                have hdne : ∀ d ∈ [d1, d0], d ≠ bb := fun d hd e => by simp at hd; omega
                have HMF := Lib.hid (fun d (hd : d ∈ [d1, d0]) => hk9 d (HM2.out d hd).1 (hdne d hd))
                have HB9 := Lib.hid hb9
                have HTT : Hid ((⟨((Pl.wAll G l (2 * gw)).map fun n => UInt8.ofNat n.toNat).toArray⟩ : ByteArray) = T) := by
                  rw [← HT.out, ← HN.out, show gh = 2 by omega, Nat.mul_comm]; exact rfl
                obtain ⟨TT, hTT⟩ : ∃ TT, (⟨((Pl.wAll G l (2 * gw)).map fun n => UInt8.ofNat n.toNat).toArray⟩ : ByteArray) = TT := ⟨_, rfl⟩
                rw [hTT] at HTT ⊢
                clear hb9 hk9 hTT
                go_wp2_with fail
                refine leaves_marks [d1, d0] w9 HMF.out (by have h10 := hnd1 d0 (by simp); simp; omega) (fun w' => results_tmp2 rfl _ _ _) (fun w' a1 a2 a3 a4 a5 => ?_)
                refine ⟨by first | (rw [HTT.out]; done) | (rw [HTT.out]; rfl), HB0.out.trans (((HD2.out.trans HB9.out).trans ⟨a1, a2, a3, by omega, fun k hk => a5 k (fun h => by simp at h; omega)⟩).mono hwb)⟩
              · go_wp2_with fail
                rw [rounds_succ]
                have hyl : (2 : Int) < (gh : Int) := by omega
                obtain ⟨n0, n1, n2, n3⟩ := HK0.out.cells
                rw [HGW.out] at n1
                rw [HGH.out] at n2
                have k0 := cell_bb HD2.out hkb2 n0
                have k1 := cell_bb HD2.out hkb2 n1
                have k2 := cell_bb HD2.out hkb2 n2
                clear n0 n1 n2 n3
                obtain ⟨F2, hF2⟩ : ∃ F, 2 * gw = F := ⟨_, rfl⟩
                have hT2 : (2 + 1) * gw = F2 + gw := by rw [← hF2, Nat.add_mul, Nat.one_mul]
                have hTN2 : F2 + gw ≤ N := by rw [← hT2, ← HN.out, Nat.mul_comm gw gh]; exact Nat.mul_le_mul_right _ (by omega)
                have q1 : IntKind.i64.wrap ((2 : Int) * (gw : Int)) = (F2 : Int) := by rw [IntWalk.i64_in] <;> omega
                have q2 : IntKind.i64.wrap (((2 : Int) + 1) * (gw : Int)) = ((F2 + gw : Nat) : Int) := by rw [IntWalk.i64_in] <;> omega
                have q3 : ((2 : Int) + 1) * (gw : Int) = ((F2 + gw : Nat) : Int) := by omega
                have q4 : (2 : Int) * (gw : Int) = (F2 : Int) := by omega
                go_wp2_with fail
                go_cut [10, 11] from 41 to 49 (fun s10 s11 wx => s10 = .int .i64 F2 ∧ s11 = .int .i64 ((F2 + gw : Nat) : Int) ∧ Below W2.heap.size W2 wx)
                case first =>
                  go_region
                  all_goals
                    go_wp2_with fail
                    go_meet
                    case rel => exact ⟨by first | rfl | (congr 1; done) | (congr 1; omega), by first | rfl | (congr 1; done) | (congr 1; omega), by go_grown⟩
                case rest =>
                  obtain ⟨rfl, rfl, hb⟩ := hcut
                  have HLx := Lib.hid (Bl.low (show Bl W2 bb bb _ (u8c (Pl.wAll G l F2)) from hF2 ▸ HL2.out) hb)
                  have HMx := Lib.hid (HM2.out.low hb)
                  have HDx := Lib.hid (HD2.out.trans (hb.mono (Nat.le_trans (Nat.le_of_lt hbW0) HD2.out.size)))
                  have fT1 : (F2 : Int) ≤ ((F2 + gw : Nat) : Int) := by omega
                  have fT2 : ((F2 + gw : Nat) : Int) ≤ (cap : Int) := by omega
                  have fT3 : ¬ cap = F2 := by omega
                  have fT4 : (F2 : Int) ≤ (cap : Int) := by omega
                  have fT5 : (0 : Int) ≤ (F2 : Int) := by omega
                  clear hb k0 k1 k2 q1 q2 q3 q4
                  go_wp2_with fail
                  refine (ch_made (some ⟨pb, po + F2, none⟩) gw gw c hc1 _).mono ?_
                  rintro e w7 ⟨nb, bq, rfl, hne, l1, l2, l3, l4, cn, cb, hb7⟩
                  have hs6 := HDx.out.size
                  have HLr := Lib.hid (HLx.out.low hb7)
                  have HMr := Lib.hid (HMx.out.low hb7)
                  have hmk := fun d hd => HMx.out.lt (d := d) hd
                  have HDr := Lib.hid (HDx.out.trans (hb7.mono (by omega)))
                  have hvr := fun g e => (HLx.out.row.lt g e).2
                  obtain ⟨m, hm1, hm2⟩ := parts_many gw c hc1
                  have hGV := Bt.ch_gives gw m c gw pb (po + F2) nb bq hc1 gw1 hm1 hm2 (Nat.le_refl _) (by omega) (by omega) (by omega) hne w7 2 (by omega) cn cb
                  have hs7 := hb7.size
                  have hz7 : ∀ g, g < wc.heap.size → ¬ ((g = nb ∨ g = bq) ∨ g = w7.heap.size ∨ g = w7.heap.size + 1) := fun g hg => by omega
                  have hzb : ¬ ((bb = nb ∨ bb = bq) ∨ bb = w7.heap.size ∨ bb = w7.heap.size + 1) := hz7 bb (by omega)
                  have hlow : ∀ g, g < bb → ¬ ((g = nb ∨ g = bq) ∨ g = w7.heap.size ∨ g = w7.heap.size + 1) := fun g hg => hz7 g (by omega)
                  clear cn cb hb7
                  go_wp2_with fail
                  refine range_wp (gf := 94) (lb := #[.pointer (some ⟨nb, 0, none⟩), .pointer (some ⟨bq, 0, none⟩)]) rfl (enters_of Try.func94 (by kernel_rfl) rfl)
                    hGV (by rintro k (rfl | rfl) <;> assumption) (fun _ => rfl)
                    (fun pre W' => ∃ v', Bl W' bb bb v' (u8c (Pl.wAll G l (F2 + min (c * pre.length) gw))) ∧ (∀ g, v'.ownBlock = some g → ¬ ((g = nb ∨ g = bq) ∨ g = w7.heap.size ∨ g = w7.heap.size + 1)) ∧ MkOk [d1, d0] v' W' ∧ Below bb W0 W')
                    (fun _ _ _ => False) ?hI2 (fun _ _ _ _ hh _ => hh) ⟨_, by simpa using HLr.out, fun g hg => hz7 g (hvr g hg), HMr.out, HDr.out⟩ ?_ ?assign2 ?body2 ?done2 ?stop2
                  case hI2 =>
                    rintro p A B' ⟨v', h1, h2, h4, h3⟩ hs
                    exact ⟨v', h1.sep hs hzb h2, h2, h4.sep hs (fun d hd => hz7 d (hmk d hd)), h3.trans (hs.below (m := bb) (by have := h3.size; omega) hlow)⟩
                  case assign2 =>
                    intro l x W K hK
                    unfold Bt.encCh
                    gi_wp2
                    exact hK
                  case body2 =>
                    rintro ll pre k rest W' hx hlt ⟨v', hbl, hvz, hmo, hbd⟩
                    obtain ⟨rfl, hkm⟩ := part_range hx
                    obtain ⟨k, hkk⟩ : ∃ k, pre.length = k := ⟨_, rfl⟩
                    rw [hkk] at hbl hkm ⊢
                    have hck : c * k < gw := by
                      have h1 : c * (k + 1) ≤ c * m := Nat.mul_le_mul_left _ hkm
                      rw [Nat.mul_succ] at h1; omega
                    have hRP := Pl.row_part HM.out HL.out HGW.out (by rw [HS0.out.1, HN.out]) HKC.out hF2 (show 2 < gh by omega) hck
                    have hlen := Pl.wAll_len (G := G) (Pl.goodU HL.out) (F2 + (c * k + min c (gw - c * k))) (by rw [HS0.out.1]; omega)
                    obtain ⟨p, hp⟩ : ∃ p, min c (gw - c * k) = p := ⟨_, rfl⟩
                    have hpc : Bt.partCh gw c k = p := hp
                    rw [hpc]
                    have hnx : min (c * (k + 1)) gw = c * k + p := by rw [Nat.mul_succ]; omega
                    rw [show min (c * k) gw = c * k by omega] at hbl
                    obtain ⟨q, hq⟩ : ∃ q, c * k = q := ⟨_, rfl⟩
                    rw [hq] at hbl hRP hck hlen hp hnx ⊢
                    have HNX := Lib.hid hnx; have HKK := Lib.hid hkk
                    obtain ⟨pt, hpt⟩ : ∃ pt, (l.drop (F2 + q)).take p = pt := ⟨_, rfl⟩
                    rw [hp] at hRP hlen
                    rw [hpt] at hRP
                    have hll := HS0.out.1
                    have hpl : pt.length = p := by rw [← hpt, List.length_take, List.length_drop]; omega
                    have hpf : Pl.Fits G pt := fun r hr => HL.out r (List.mem_of_mem_drop (List.mem_of_mem_take (hpt ▸ hr)))
                    have hsp : SlK .u64 W' (some ⟨pb, po + F2 + q, none⟩) p pt := by
                      refine ⟨hpl, .inr ⟨pb, _, rfl, fun j hj => ?_⟩⟩
                      rcases HS0.out.2 with h | ⟨b, o, e, hc⟩
                      · omega
                      · cases e
                        have h1 := cell_bb hbd (p := ⟨pb, po + (F2 + q + j), none⟩) hpb (hc (F2 + q + j) (by omega))
                        rw [show po + F2 + q + j = po + (F2 + q + j) by omega, h1, ← hpt, List.getD_eq_getElem?_getD, List.getD_eq_getElem?_getD, List.getElem?_take_of_lt hj, List.getElem?_drop]
                    have ht : W'.cell? ⟨tb, 0, none⟩ = some (.string (strOfNums sep)) := cell_bb hbd htb2 HT0.out
                    have HLN := Lib.hid (plLine_any (some ⟨pb, po + F2 + q, none⟩) p p pt G hpf (by omega) sep HS1.out W' hsp)
                    obtain ⟨X, hX⟩ : ∃ X, Pl.joinI sep ((pt.flatMap Pq.Px.smp).map Nu.decV) ++ [10] = X := ⟨_, rfl⟩
                    rw [hX] at HLN hRP
                    have hXl : (Pl.wAll G l (F2 + q)).length + X.length ≤ 202 * 240 := by rw [hRP, List.length_append] at hlen; omega
                    have HRP := Lib.hid hRP
                    obtain ⟨LT, hLT⟩ : ∃ LT, strOfNums X = LT := ⟨_, rfl⟩
                    have hLTs : (u8c (Pl.wAll G l (F2 + q))).length + LT.size ≤ 140737488355328 := by rw [u8c_len, ← hLT, strOfNums_size]; omega
                    rw [hLT] at HLN
                    have HLT := Lib.hid hLT
                    have HBL := Lib.hid hbl; have HVZ := Lib.hid hvz; have HMO := Lib.hid hmo; have HBD := Lib.hid hbd
                    have hsz' := hbd.size
                    clear hx hRP hp hpc hnx hpt hpf hsp hX hXl hLT hbl hvz hmo hbd hll hpl hlen hkk
                    gi_wp2_with (first
                      | (refine ⟨trivial, ?_⟩; gi_at_call 75; refine (((callsIn_wide (n := _)).2 HLN.out).inRound ll).mono ?_; rintro e w8 ⟨rfl, hb8⟩; have HB8 := Lib.hid hb8; have HBL8 := Lib.hid (HBL.out.low hb8); have HMO8 := Lib.hid (HMO.out.low hb8); have hs8 := hb8.size; clear hb8)
                      | (refine ⟨trivial, ?_⟩; gi_at_call 74; refine (((callsIn_wide (n := _)).2 (write_any bb bb v' _ LT w8 HBL8.out hLTs (by omega))).inRound ll).mono ?_; rintro e w9 ⟨v9, rfl, hbl9, hsep9, hat9⟩; have HBL9 := Lib.hid hbl9; have HSEP9 := Lib.hid hsep9; have HAT9 := Lib.hid hat9; clear hbl9 hsep9 hat9))
                    obtain ⟨pw, -, hbd8⟩ := HBL8.out.bd
                    have hzz : ∀ g, ((g = nb ∨ g = bq) ∨ g = w7.heap.size ∨ g = w7.heap.size + 1) → g < W'.heap.size := fun g hg => by omega
                    refine ⟨(Hold.below HB8.out hzz).trans ⟨HSEP9.out.size, fun g hg hz => HSEP9.out.block g hg (fun h => by rcases h with h | h; exact hzb (h ▸ hz); exact HVZ.out g h hz)⟩, v9, ?_, ?_, HMO8.out.write hbd8 HSEP9.out HAT9.out, ?_⟩
                    · have h := HBL9.out
                      rw [← HLT.out] at h
                      rw [List.length_append, List.length_singleton, HKK.out, HNX.out, HRP.out, u8c_app]
                      exact h
                    · intro g hg hz
                      rcases HAT9.out g hg with h | h
                      · exact HVZ.out g h hz
                      · have := hzz g hz; omega
                    · have h1 : Below bb W' w8 := HB8.out.mono (by omega)
                      have h2 : Below bb w8 w9 := HSEP9.out.below (m := bb) (by omega) (fun g hg h => by
                        rcases h with h | h
                        · omega
                        · have := (HBL8.out.row.lt g h).1; omega)
                      exact (HBD.out.trans h1).trans h2
                  case done2 =>
                    rintro W3 ⟨v3, hbl, hvz, hmo, hbd⟩ hK
                    obtain ⟨d2, hd⟩ : ∃ d, w7.heap.size = d := ⟨_, rfl⟩
                    have hdb2 : bb < d2 := by have := HDr.out.size; omega
                    have hnd2 : ∀ e ∈ [d1, d0], e < d2 := fun e he => by have := hmk e he; omega
                    rw [hd] at hK hvz ⊢
                    have HM3 : Hid (MkOk [d2, d1, d0] v3 W3) := Lib.hid (fun e he => by
                      rcases List.mem_cons.1 he with rfl | he
                      · exact ⟨hK, fun h => hvz _ h (.inr (.inl rfl))⟩
                      · exact hmo e he)
                    have HL3 : Hid (Bl W3 bb bb v3 (u8c (Pl.wAll G l (3 * gw)))) := by
                      have h := hbl
                      rw [List.length_range, show min (c * m) gw = gw by omega, ← hT2] at h
                      exact Lib.hid h
                    have HD3 := Lib.hid hbd
                    clear hbl hvz hmo hbd hK hd hGV hz7 hzb hlow hmk hvr l1 l2 l3 l4 hne hm1 hm2 hs6 hs7 HLr HMr HDr HLx HMx HDx fT1 fT2 fT3 fT4 fT5 hyl
                    by_cases hg3 : gh = 3
                    · go_wp2_with fail
                      rw [rounds_succ]
                      have hyl : ¬ (3 : Int) < (gh : Int) := by omega
                      go_wp2_with fail
                      refine (sh_string_k bb bb _ _ (bl_is HL3.out (Nat.le_refl _)) (by have := HD3.out.size; omega)).mono ?_
                      rintro e w9 ⟨rfl, hb9, hk9⟩
                      have hdne : ∀ d ∈ [d2, d1, d0], d ≠ bb := fun d hd e => by simp at hd; omega
                      have HMF := Lib.hid (fun d (hd : d ∈ [d2, d1, d0]) => hk9 d (HM3.out d hd).1 (hdne d hd))
                      have HB9 := Lib.hid hb9
                      have HTT : Hid ((⟨((Pl.wAll G l (3 * gw)).map fun n => UInt8.ofNat n.toNat).toArray⟩ : ByteArray) = T) := by
                        rw [← HT.out, ← HN.out, show gh = 3 by omega, Nat.mul_comm]; exact rfl
                      obtain ⟨TT, hTT⟩ : ∃ TT, (⟨((Pl.wAll G l (3 * gw)).map fun n => UInt8.ofNat n.toNat).toArray⟩ : ByteArray) = TT := ⟨_, rfl⟩
                      rw [hTT] at HTT ⊢
                      clear hb9 hk9 hTT
                      go_wp2_with fail
                      refine leaves_marks [d2, d1, d0] w9 HMF.out (by have h10 := hnd1 d0 (by simp); have h20 := hnd2 d0 (by simp); have h21 := hnd2 d1 (by simp); simp; omega) (fun w' => results_tmp2 rfl _ _ _) (fun w' a1 a2 a3 a4 a5 => ?_)
                      refine ⟨by first | (rw [HTT.out]; done) | (rw [HTT.out]; rfl), HB0.out.trans (((HD3.out.trans HB9.out).trans ⟨a1, a2, a3, by omega, fun k hk => a5 k (fun h => by simp at h; omega)⟩).mono hwb)⟩
                    · go_wp2_with fail
                      rw [rounds_succ]
                      have hyl : (3 : Int) < (gh : Int) := by omega
                      obtain ⟨n0, n1, n2, n3⟩ := HK0.out.cells
                      rw [HGW.out] at n1
                      rw [HGH.out] at n2
                      have k0 := cell_bb HD3.out hkb2 n0
                      have k1 := cell_bb HD3.out hkb2 n1
                      have k2 := cell_bb HD3.out hkb2 n2
                      clear n0 n1 n2 n3
                      obtain ⟨F3, hF3⟩ : ∃ F, 3 * gw = F := ⟨_, rfl⟩
                      have hT3 : (3 + 1) * gw = F3 + gw := by rw [← hF3, Nat.add_mul, Nat.one_mul]
                      have hTN3 : F3 + gw ≤ N := by rw [← hT3, ← HN.out, Nat.mul_comm gw gh]; exact Nat.mul_le_mul_right _ (by omega)
                      have q1 : IntKind.i64.wrap ((3 : Int) * (gw : Int)) = (F3 : Int) := by rw [IntWalk.i64_in] <;> omega
                      have q2 : IntKind.i64.wrap (((3 : Int) + 1) * (gw : Int)) = ((F3 + gw : Nat) : Int) := by rw [IntWalk.i64_in] <;> omega
                      have q3 : ((3 : Int) + 1) * (gw : Int) = ((F3 + gw : Nat) : Int) := by omega
                      have q4 : (3 : Int) * (gw : Int) = (F3 : Int) := by omega
                      go_wp2_with fail
                      go_cut [10, 11] from 41 to 49 (fun s10 s11 wx => s10 = .int .i64 F3 ∧ s11 = .int .i64 ((F3 + gw : Nat) : Int) ∧ Below W3.heap.size W3 wx)
                      case first =>
                        go_region
                        all_goals
                          go_wp2_with fail
                          go_meet
                          case rel => exact ⟨by first | rfl | (congr 1; done) | (congr 1; omega), by first | rfl | (congr 1; done) | (congr 1; omega), by go_grown⟩
                      case rest =>
                        obtain ⟨rfl, rfl, hb⟩ := hcut
                        have HLx := Lib.hid (Bl.low (show Bl W3 bb bb _ (u8c (Pl.wAll G l F3)) from hF3 ▸ HL3.out) hb)
                        have HMx := Lib.hid (HM3.out.low hb)
                        have HDx := Lib.hid (HD3.out.trans (hb.mono (Nat.le_trans (Nat.le_of_lt hbW0) HD3.out.size)))
                        have fT1 : (F3 : Int) ≤ ((F3 + gw : Nat) : Int) := by omega
                        have fT2 : ((F3 + gw : Nat) : Int) ≤ (cap : Int) := by omega
                        have fT3 : ¬ cap = F3 := by omega
                        have fT4 : (F3 : Int) ≤ (cap : Int) := by omega
                        have fT5 : (0 : Int) ≤ (F3 : Int) := by omega
                        clear hb k0 k1 k2 q1 q2 q3 q4
                        go_wp2_with fail
                        refine (ch_made (some ⟨pb, po + F3, none⟩) gw gw c hc1 _).mono ?_
                        rintro e w7 ⟨nb, bq, rfl, hne, l1, l2, l3, l4, cn, cb, hb7⟩
                        have hs6 := HDx.out.size
                        have HLr := Lib.hid (HLx.out.low hb7)
                        have HMr := Lib.hid (HMx.out.low hb7)
                        have hmk := fun d hd => HMx.out.lt (d := d) hd
                        have HDr := Lib.hid (HDx.out.trans (hb7.mono (by omega)))
                        have hvr := fun g e => (HLx.out.row.lt g e).2
                        obtain ⟨m, hm1, hm2⟩ := parts_many gw c hc1
                        have hGV := Bt.ch_gives gw m c gw pb (po + F3) nb bq hc1 gw1 hm1 hm2 (Nat.le_refl _) (by omega) (by omega) (by omega) hne w7 2 (by omega) cn cb
                        have hs7 := hb7.size
                        have hz7 : ∀ g, g < wc.heap.size → ¬ ((g = nb ∨ g = bq) ∨ g = w7.heap.size ∨ g = w7.heap.size + 1) := fun g hg => by omega
                        have hzb : ¬ ((bb = nb ∨ bb = bq) ∨ bb = w7.heap.size ∨ bb = w7.heap.size + 1) := hz7 bb (by omega)
                        have hlow : ∀ g, g < bb → ¬ ((g = nb ∨ g = bq) ∨ g = w7.heap.size ∨ g = w7.heap.size + 1) := fun g hg => hz7 g (by omega)
                        clear cn cb hb7
                        go_wp2_with fail
                        refine range_wp (gf := 94) (lb := #[.pointer (some ⟨nb, 0, none⟩), .pointer (some ⟨bq, 0, none⟩)]) rfl (enters_of Try.func94 (by kernel_rfl) rfl)
                          hGV (by rintro k (rfl | rfl) <;> assumption) (fun _ => rfl)
                          (fun pre W' => ∃ v', Bl W' bb bb v' (u8c (Pl.wAll G l (F3 + min (c * pre.length) gw))) ∧ (∀ g, v'.ownBlock = some g → ¬ ((g = nb ∨ g = bq) ∨ g = w7.heap.size ∨ g = w7.heap.size + 1)) ∧ MkOk [d2, d1, d0] v' W' ∧ Below bb W0 W')
                          (fun _ _ _ => False) ?hI3 (fun _ _ _ _ hh _ => hh) ⟨_, by simpa using HLr.out, fun g hg => hz7 g (hvr g hg), HMr.out, HDr.out⟩ ?_ ?assign3 ?body3 ?done3 ?stop3
                        case hI3 =>
                          rintro p A B' ⟨v', h1, h2, h4, h3⟩ hs
                          exact ⟨v', h1.sep hs hzb h2, h2, h4.sep hs (fun d hd => hz7 d (hmk d hd)), h3.trans (hs.below (m := bb) (by have := h3.size; omega) hlow)⟩
                        case assign3 =>
                          intro l x W K hK
                          unfold Bt.encCh
                          gi_wp2
                          exact hK
                        case body3 =>
                          rintro ll pre k rest W' hx hlt ⟨v', hbl, hvz, hmo, hbd⟩
                          obtain ⟨rfl, hkm⟩ := part_range hx
                          obtain ⟨k, hkk⟩ : ∃ k, pre.length = k := ⟨_, rfl⟩
                          rw [hkk] at hbl hkm ⊢
                          have hck : c * k < gw := by
                            have h1 : c * (k + 1) ≤ c * m := Nat.mul_le_mul_left _ hkm
                            rw [Nat.mul_succ] at h1; omega
                          have hRP := Pl.row_part HM.out HL.out HGW.out (by rw [HS0.out.1, HN.out]) HKC.out hF3 (show 3 < gh by omega) hck
                          have hlen := Pl.wAll_len (G := G) (Pl.goodU HL.out) (F3 + (c * k + min c (gw - c * k))) (by rw [HS0.out.1]; omega)
                          obtain ⟨p, hp⟩ : ∃ p, min c (gw - c * k) = p := ⟨_, rfl⟩
                          have hpc : Bt.partCh gw c k = p := hp
                          rw [hpc]
                          have hnx : min (c * (k + 1)) gw = c * k + p := by rw [Nat.mul_succ]; omega
                          rw [show min (c * k) gw = c * k by omega] at hbl
                          obtain ⟨q, hq⟩ : ∃ q, c * k = q := ⟨_, rfl⟩
                          rw [hq] at hbl hRP hck hlen hp hnx ⊢
                          have HNX := Lib.hid hnx; have HKK := Lib.hid hkk
                          obtain ⟨pt, hpt⟩ : ∃ pt, (l.drop (F3 + q)).take p = pt := ⟨_, rfl⟩
                          rw [hp] at hRP hlen
                          rw [hpt] at hRP
                          have hll := HS0.out.1
                          have hpl : pt.length = p := by rw [← hpt, List.length_take, List.length_drop]; omega
                          have hpf : Pl.Fits G pt := fun r hr => HL.out r (List.mem_of_mem_drop (List.mem_of_mem_take (hpt ▸ hr)))
                          have hsp : SlK .u64 W' (some ⟨pb, po + F3 + q, none⟩) p pt := by
                            refine ⟨hpl, .inr ⟨pb, _, rfl, fun j hj => ?_⟩⟩
                            rcases HS0.out.2 with h | ⟨b, o, e, hc⟩
                            · omega
                            · cases e
                              have h1 := cell_bb hbd (p := ⟨pb, po + (F3 + q + j), none⟩) hpb (hc (F3 + q + j) (by omega))
                              rw [show po + F3 + q + j = po + (F3 + q + j) by omega, h1, ← hpt, List.getD_eq_getElem?_getD, List.getD_eq_getElem?_getD, List.getElem?_take_of_lt hj, List.getElem?_drop]
                          have ht : W'.cell? ⟨tb, 0, none⟩ = some (.string (strOfNums sep)) := cell_bb hbd htb2 HT0.out
                          have HLN := Lib.hid (plLine_any (some ⟨pb, po + F3 + q, none⟩) p p pt G hpf (by omega) sep HS1.out W' hsp)
                          obtain ⟨X, hX⟩ : ∃ X, Pl.joinI sep ((pt.flatMap Pq.Px.smp).map Nu.decV) ++ [10] = X := ⟨_, rfl⟩
                          rw [hX] at HLN hRP
                          have hXl : (Pl.wAll G l (F3 + q)).length + X.length ≤ 202 * 240 := by rw [hRP, List.length_append] at hlen; omega
                          have HRP := Lib.hid hRP
                          obtain ⟨LT, hLT⟩ : ∃ LT, strOfNums X = LT := ⟨_, rfl⟩
                          have hLTs : (u8c (Pl.wAll G l (F3 + q))).length + LT.size ≤ 140737488355328 := by rw [u8c_len, ← hLT, strOfNums_size]; omega
                          rw [hLT] at HLN
                          have HLT := Lib.hid hLT
                          have HBL := Lib.hid hbl; have HVZ := Lib.hid hvz; have HMO := Lib.hid hmo; have HBD := Lib.hid hbd
                          have hsz' := hbd.size
                          clear hx hRP hp hpc hnx hpt hpf hsp hX hXl hLT hbl hvz hmo hbd hll hpl hlen hkk
                          gi_wp2_with (first
                            | (refine ⟨trivial, ?_⟩; gi_at_call 75; refine (((callsIn_wide (n := _)).2 HLN.out).inRound ll).mono ?_; rintro e w8 ⟨rfl, hb8⟩; have HB8 := Lib.hid hb8; have HBL8 := Lib.hid (HBL.out.low hb8); have HMO8 := Lib.hid (HMO.out.low hb8); have hs8 := hb8.size; clear hb8)
                            | (refine ⟨trivial, ?_⟩; gi_at_call 74; refine (((callsIn_wide (n := _)).2 (write_any bb bb v' _ LT w8 HBL8.out hLTs (by omega))).inRound ll).mono ?_; rintro e w9 ⟨v9, rfl, hbl9, hsep9, hat9⟩; have HBL9 := Lib.hid hbl9; have HSEP9 := Lib.hid hsep9; have HAT9 := Lib.hid hat9; clear hbl9 hsep9 hat9))
                          obtain ⟨pw, -, hbd8⟩ := HBL8.out.bd
                          have hzz : ∀ g, ((g = nb ∨ g = bq) ∨ g = w7.heap.size ∨ g = w7.heap.size + 1) → g < W'.heap.size := fun g hg => by omega
                          refine ⟨(Hold.below HB8.out hzz).trans ⟨HSEP9.out.size, fun g hg hz => HSEP9.out.block g hg (fun h => by rcases h with h | h; exact hzb (h ▸ hz); exact HVZ.out g h hz)⟩, v9, ?_, ?_, HMO8.out.write hbd8 HSEP9.out HAT9.out, ?_⟩
                          · have h := HBL9.out
                            rw [← HLT.out] at h
                            rw [List.length_append, List.length_singleton, HKK.out, HNX.out, HRP.out, u8c_app]
                            exact h
                          · intro g hg hz
                            rcases HAT9.out g hg with h | h
                            · exact HVZ.out g h hz
                            · have := hzz g hz; omega
                          · have h1 : Below bb W' w8 := HB8.out.mono (by omega)
                            have h2 : Below bb w8 w9 := HSEP9.out.below (m := bb) (by omega) (fun g hg h => by
                              rcases h with h | h
                              · omega
                              · have := (HBL8.out.row.lt g h).1; omega)
                            exact (HBD.out.trans h1).trans h2
                        case done3 =>
                          rintro W4 ⟨v4, hbl, hvz, hmo, hbd⟩ hK
                          obtain ⟨d3, hd⟩ : ∃ d, w7.heap.size = d := ⟨_, rfl⟩
                          have hdb3 : bb < d3 := by have := HDr.out.size; omega
                          have hnd3 : ∀ e ∈ [d2, d1, d0], e < d3 := fun e he => by have := hmk e he; omega
                          rw [hd] at hK hvz ⊢
                          have HM4 : Hid (MkOk [d3, d2, d1, d0] v4 W4) := Lib.hid (fun e he => by
                            rcases List.mem_cons.1 he with rfl | he
                            · exact ⟨hK, fun h => hvz _ h (.inr (.inl rfl))⟩
                            · exact hmo e he)
                          have HL4 : Hid (Bl W4 bb bb v4 (u8c (Pl.wAll G l (4 * gw)))) := by
                            have h := hbl
                            rw [List.length_range, show min (c * m) gw = gw by omega, ← hT3] at h
                            exact Lib.hid h
                          have HD4 := Lib.hid hbd
                          clear hbl hvz hmo hbd hK hd hGV hz7 hzb hlow hmk hvr l1 l2 l3 l4 hne hm1 hm2 hs6 hs7 HLr HMr HDr HLx HMx HDx fT1 fT2 fT3 fT4 fT5 hyl
                          by_cases hg4 : gh = 4
                          · go_wp2_with fail
                            rw [rounds_succ]
                            have hyl : ¬ (4 : Int) < (gh : Int) := by omega
                            go_wp2_with fail
                            refine (sh_string_k bb bb _ _ (bl_is HL4.out (Nat.le_refl _)) (by have := HD4.out.size; omega)).mono ?_
                            rintro e w9 ⟨rfl, hb9, hk9⟩
                            have hdne : ∀ d ∈ [d3, d2, d1, d0], d ≠ bb := fun d hd e => by simp at hd; omega
                            have HMF := Lib.hid (fun d (hd : d ∈ [d3, d2, d1, d0]) => hk9 d (HM4.out d hd).1 (hdne d hd))
                            have HB9 := Lib.hid hb9
                            have HTT : Hid ((⟨((Pl.wAll G l (4 * gw)).map fun n => UInt8.ofNat n.toNat).toArray⟩ : ByteArray) = T) := by
                              rw [← HT.out, ← HN.out, show gh = 4 by omega, Nat.mul_comm]; exact rfl
                            obtain ⟨TT, hTT⟩ : ∃ TT, (⟨((Pl.wAll G l (4 * gw)).map fun n => UInt8.ofNat n.toNat).toArray⟩ : ByteArray) = TT := ⟨_, rfl⟩
                            rw [hTT] at HTT ⊢
                            clear hb9 hk9 hTT
                            go_wp2_with fail
                            refine leaves_marks [d3, d2, d1, d0] w9 HMF.out (by have h10 := hnd1 d0 (by simp); have h20 := hnd2 d0 (by simp); have h21 := hnd2 d1 (by simp); have h30 := hnd3 d0 (by simp); have h31 := hnd3 d1 (by simp); have h32 := hnd3 d2 (by simp); simp; omega) (fun w' => results_tmp2 rfl _ _ _) (fun w' a1 a2 a3 a4 a5 => ?_)
                            refine ⟨by first | (rw [HTT.out]; done) | (rw [HTT.out]; rfl), HB0.out.trans (((HD4.out.trans HB9.out).trans ⟨a1, a2, a3, by omega, fun k hk => a5 k (fun h => by simp at h; omega)⟩).mono hwb)⟩
                          · go_wp2_with fail
                            rw [rounds_succ]
                            have hyl : (4 : Int) < (gh : Int) := by omega
                            obtain ⟨n0, n1, n2, n3⟩ := HK0.out.cells
                            rw [HGW.out] at n1
                            rw [HGH.out] at n2
                            have k0 := cell_bb HD4.out hkb2 n0
                            have k1 := cell_bb HD4.out hkb2 n1
                            have k2 := cell_bb HD4.out hkb2 n2
                            clear n0 n1 n2 n3
                            obtain ⟨F4, hF4⟩ : ∃ F, 4 * gw = F := ⟨_, rfl⟩
                            have hT4 : (4 + 1) * gw = F4 + gw := by rw [← hF4, Nat.add_mul, Nat.one_mul]
                            have hTN4 : F4 + gw ≤ N := by rw [← hT4, ← HN.out, Nat.mul_comm gw gh]; exact Nat.mul_le_mul_right _ (by omega)
                            have q1 : IntKind.i64.wrap ((4 : Int) * (gw : Int)) = (F4 : Int) := by rw [IntWalk.i64_in] <;> omega
                            have q2 : IntKind.i64.wrap (((4 : Int) + 1) * (gw : Int)) = ((F4 + gw : Nat) : Int) := by rw [IntWalk.i64_in] <;> omega
                            have q3 : ((4 : Int) + 1) * (gw : Int) = ((F4 + gw : Nat) : Int) := by omega
                            have q4 : (4 : Int) * (gw : Int) = (F4 : Int) := by omega
                            go_wp2_with fail
                            go_cut [10, 11] from 41 to 49 (fun s10 s11 wx => s10 = .int .i64 F4 ∧ s11 = .int .i64 ((F4 + gw : Nat) : Int) ∧ Below W4.heap.size W4 wx)
                            case first =>
                              go_region
                              all_goals
                                go_wp2_with fail
                                go_meet
                                case rel => exact ⟨by first | rfl | (congr 1; done) | (congr 1; omega), by first | rfl | (congr 1; done) | (congr 1; omega), by go_grown⟩
                            case rest =>
                              obtain ⟨rfl, rfl, hb⟩ := hcut
                              have HLx := Lib.hid (Bl.low (show Bl W4 bb bb _ (u8c (Pl.wAll G l F4)) from hF4 ▸ HL4.out) hb)
                              have HMx := Lib.hid (HM4.out.low hb)
                              have HDx := Lib.hid (HD4.out.trans (hb.mono (Nat.le_trans (Nat.le_of_lt hbW0) HD4.out.size)))
                              have fT1 : (F4 : Int) ≤ ((F4 + gw : Nat) : Int) := by omega
                              have fT2 : ((F4 + gw : Nat) : Int) ≤ (cap : Int) := by omega
                              have fT3 : ¬ cap = F4 := by omega
                              have fT4 : (F4 : Int) ≤ (cap : Int) := by omega
                              have fT5 : (0 : Int) ≤ (F4 : Int) := by omega
                              clear hb k0 k1 k2 q1 q2 q3 q4
                              go_wp2_with fail
                              refine (ch_made (some ⟨pb, po + F4, none⟩) gw gw c hc1 _).mono ?_
                              rintro e w7 ⟨nb, bq, rfl, hne, l1, l2, l3, l4, cn, cb, hb7⟩
                              have hs6 := HDx.out.size
                              have HLr := Lib.hid (HLx.out.low hb7)
                              have HMr := Lib.hid (HMx.out.low hb7)
                              have hmk := fun d hd => HMx.out.lt (d := d) hd
                              have HDr := Lib.hid (HDx.out.trans (hb7.mono (by omega)))
                              have hvr := fun g e => (HLx.out.row.lt g e).2
                              obtain ⟨m, hm1, hm2⟩ := parts_many gw c hc1
                              have hGV := Bt.ch_gives gw m c gw pb (po + F4) nb bq hc1 gw1 hm1 hm2 (Nat.le_refl _) (by omega) (by omega) (by omega) hne w7 2 (by omega) cn cb
                              have hs7 := hb7.size
                              have hz7 : ∀ g, g < wc.heap.size → ¬ ((g = nb ∨ g = bq) ∨ g = w7.heap.size ∨ g = w7.heap.size + 1) := fun g hg => by omega
                              have hzb : ¬ ((bb = nb ∨ bb = bq) ∨ bb = w7.heap.size ∨ bb = w7.heap.size + 1) := hz7 bb (by omega)
                              have hlow : ∀ g, g < bb → ¬ ((g = nb ∨ g = bq) ∨ g = w7.heap.size ∨ g = w7.heap.size + 1) := fun g hg => hz7 g (by omega)
                              clear cn cb hb7
                              go_wp2_with fail
                              refine range_wp (gf := 94) (lb := #[.pointer (some ⟨nb, 0, none⟩), .pointer (some ⟨bq, 0, none⟩)]) rfl (enters_of Try.func94 (by kernel_rfl) rfl)
                                hGV (by rintro k (rfl | rfl) <;> assumption) (fun _ => rfl)
                                (fun pre W' => ∃ v', Bl W' bb bb v' (u8c (Pl.wAll G l (F4 + min (c * pre.length) gw))) ∧ (∀ g, v'.ownBlock = some g → ¬ ((g = nb ∨ g = bq) ∨ g = w7.heap.size ∨ g = w7.heap.size + 1)) ∧ MkOk [d3, d2, d1, d0] v' W' ∧ Below bb W0 W')
                                (fun _ _ _ => False) ?hI4 (fun _ _ _ _ hh _ => hh) ⟨_, by simpa using HLr.out, fun g hg => hz7 g (hvr g hg), HMr.out, HDr.out⟩ ?_ ?assign4 ?body4 ?done4 ?stop4
                              case hI4 =>
                                rintro p A B' ⟨v', h1, h2, h4, h3⟩ hs
                                exact ⟨v', h1.sep hs hzb h2, h2, h4.sep hs (fun d hd => hz7 d (hmk d hd)), h3.trans (hs.below (m := bb) (by have := h3.size; omega) hlow)⟩
                              case assign4 =>
                                intro l x W K hK
                                unfold Bt.encCh
                                gi_wp2
                                exact hK
                              case body4 =>
                                rintro ll pre k rest W' hx hlt ⟨v', hbl, hvz, hmo, hbd⟩
                                obtain ⟨rfl, hkm⟩ := part_range hx
                                obtain ⟨k, hkk⟩ : ∃ k, pre.length = k := ⟨_, rfl⟩
                                rw [hkk] at hbl hkm ⊢
                                have hck : c * k < gw := by
                                  have h1 : c * (k + 1) ≤ c * m := Nat.mul_le_mul_left _ hkm
                                  rw [Nat.mul_succ] at h1; omega
                                have hRP := Pl.row_part HM.out HL.out HGW.out (by rw [HS0.out.1, HN.out]) HKC.out hF4 (show 4 < gh by omega) hck
                                have hlen := Pl.wAll_len (G := G) (Pl.goodU HL.out) (F4 + (c * k + min c (gw - c * k))) (by rw [HS0.out.1]; omega)
                                obtain ⟨p, hp⟩ : ∃ p, min c (gw - c * k) = p := ⟨_, rfl⟩
                                have hpc : Bt.partCh gw c k = p := hp
                                rw [hpc]
                                have hnx : min (c * (k + 1)) gw = c * k + p := by rw [Nat.mul_succ]; omega
                                rw [show min (c * k) gw = c * k by omega] at hbl
                                obtain ⟨q, hq⟩ : ∃ q, c * k = q := ⟨_, rfl⟩
                                rw [hq] at hbl hRP hck hlen hp hnx ⊢
                                have HNX := Lib.hid hnx; have HKK := Lib.hid hkk
                                obtain ⟨pt, hpt⟩ : ∃ pt, (l.drop (F4 + q)).take p = pt := ⟨_, rfl⟩
                                rw [hp] at hRP hlen
                                rw [hpt] at hRP
                                have hll := HS0.out.1
                                have hpl : pt.length = p := by rw [← hpt, List.length_take, List.length_drop]; omega
                                have hpf : Pl.Fits G pt := fun r hr => HL.out r (List.mem_of_mem_drop (List.mem_of_mem_take (hpt ▸ hr)))
                                have hsp : SlK .u64 W' (some ⟨pb, po + F4 + q, none⟩) p pt := by
                                  refine ⟨hpl, .inr ⟨pb, _, rfl, fun j hj => ?_⟩⟩
                                  rcases HS0.out.2 with h | ⟨b, o, e, hc⟩
                                  · omega
                                  · cases e
                                    have h1 := cell_bb hbd (p := ⟨pb, po + (F4 + q + j), none⟩) hpb (hc (F4 + q + j) (by omega))
                                    rw [show po + F4 + q + j = po + (F4 + q + j) by omega, h1, ← hpt, List.getD_eq_getElem?_getD, List.getD_eq_getElem?_getD, List.getElem?_take_of_lt hj, List.getElem?_drop]
                                have ht : W'.cell? ⟨tb, 0, none⟩ = some (.string (strOfNums sep)) := cell_bb hbd htb2 HT0.out
                                have HLN := Lib.hid (plLine_any (some ⟨pb, po + F4 + q, none⟩) p p pt G hpf (by omega) sep HS1.out W' hsp)
                                obtain ⟨X, hX⟩ : ∃ X, Pl.joinI sep ((pt.flatMap Pq.Px.smp).map Nu.decV) ++ [10] = X := ⟨_, rfl⟩
                                rw [hX] at HLN hRP
                                have hXl : (Pl.wAll G l (F4 + q)).length + X.length ≤ 202 * 240 := by rw [hRP, List.length_append] at hlen; omega
                                have HRP := Lib.hid hRP
                                obtain ⟨LT, hLT⟩ : ∃ LT, strOfNums X = LT := ⟨_, rfl⟩
                                have hLTs : (u8c (Pl.wAll G l (F4 + q))).length + LT.size ≤ 140737488355328 := by rw [u8c_len, ← hLT, strOfNums_size]; omega
                                rw [hLT] at HLN
                                have HLT := Lib.hid hLT
                                have HBL := Lib.hid hbl; have HVZ := Lib.hid hvz; have HMO := Lib.hid hmo; have HBD := Lib.hid hbd
                                have hsz' := hbd.size
                                clear hx hRP hp hpc hnx hpt hpf hsp hX hXl hLT hbl hvz hmo hbd hll hpl hlen hkk
                                gi_wp2_with (first
                                  | (refine ⟨trivial, ?_⟩; gi_at_call 75; refine (((callsIn_wide (n := _)).2 HLN.out).inRound ll).mono ?_; rintro e w8 ⟨rfl, hb8⟩; have HB8 := Lib.hid hb8; have HBL8 := Lib.hid (HBL.out.low hb8); have HMO8 := Lib.hid (HMO.out.low hb8); have hs8 := hb8.size; clear hb8)
                                  | (refine ⟨trivial, ?_⟩; gi_at_call 74; refine (((callsIn_wide (n := _)).2 (write_any bb bb v' _ LT w8 HBL8.out hLTs (by omega))).inRound ll).mono ?_; rintro e w9 ⟨v9, rfl, hbl9, hsep9, hat9⟩; have HBL9 := Lib.hid hbl9; have HSEP9 := Lib.hid hsep9; have HAT9 := Lib.hid hat9; clear hbl9 hsep9 hat9))
                                obtain ⟨pw, -, hbd8⟩ := HBL8.out.bd
                                have hzz : ∀ g, ((g = nb ∨ g = bq) ∨ g = w7.heap.size ∨ g = w7.heap.size + 1) → g < W'.heap.size := fun g hg => by omega
                                refine ⟨(Hold.below HB8.out hzz).trans ⟨HSEP9.out.size, fun g hg hz => HSEP9.out.block g hg (fun h => by rcases h with h | h; exact hzb (h ▸ hz); exact HVZ.out g h hz)⟩, v9, ?_, ?_, HMO8.out.write hbd8 HSEP9.out HAT9.out, ?_⟩
                                · have h := HBL9.out
                                  rw [← HLT.out] at h
                                  rw [List.length_append, List.length_singleton, HKK.out, HNX.out, HRP.out, u8c_app]
                                  exact h
                                · intro g hg hz
                                  rcases HAT9.out g hg with h | h
                                  · exact HVZ.out g h hz
                                  · have := hzz g hz; omega
                                · have h1 : Below bb W' w8 := HB8.out.mono (by omega)
                                  have h2 : Below bb w8 w9 := HSEP9.out.below (m := bb) (by omega) (fun g hg h => by
                                    rcases h with h | h
                                    · omega
                                    · have := (HBL8.out.row.lt g h).1; omega)
                                  exact (HBD.out.trans h1).trans h2
                              case done4 =>
                                rintro W5 ⟨v5, hbl, hvz, hmo, hbd⟩ hK
                                obtain ⟨d4, hd⟩ : ∃ d, w7.heap.size = d := ⟨_, rfl⟩
                                have hdb4 : bb < d4 := by have := HDr.out.size; omega
                                have hnd4 : ∀ e ∈ [d3, d2, d1, d0], e < d4 := fun e he => by have := hmk e he; omega
                                rw [hd] at hK hvz ⊢
                                have HM5 : Hid (MkOk [d4, d3, d2, d1, d0] v5 W5) := Lib.hid (fun e he => by
                                  rcases List.mem_cons.1 he with rfl | he
                                  · exact ⟨hK, fun h => hvz _ h (.inr (.inl rfl))⟩
                                  · exact hmo e he)
                                have HL5 : Hid (Bl W5 bb bb v5 (u8c (Pl.wAll G l (5 * gw)))) := by
                                  have h := hbl
                                  rw [List.length_range, show min (c * m) gw = gw by omega, ← hT4] at h
                                  exact Lib.hid h
                                have HD5 := Lib.hid hbd
                                clear hbl hvz hmo hbd hK hd hGV hz7 hzb hlow hmk hvr l1 l2 l3 l4 hne hm1 hm2 hs6 hs7 HLr HMr HDr HLx HMx HDx fT1 fT2 fT3 fT4 fT5 hyl
                                go_wp2_with fail
                                rw [rounds_succ]
                                have hyl : ¬ (5 : Int) < (gh : Int) := by omega
                                go_wp2_with fail
                                refine (sh_string_k bb bb _ _ (bl_is HL5.out (Nat.le_refl _)) (by have := HD5.out.size; omega)).mono ?_
                                rintro e w9 ⟨rfl, hb9, hk9⟩
                                have hdne : ∀ d ∈ [d4, d3, d2, d1, d0], d ≠ bb := fun d hd e => by simp at hd; omega
                                have HMF := Lib.hid (fun d (hd : d ∈ [d4, d3, d2, d1, d0]) => hk9 d (HM5.out d hd).1 (hdne d hd))
                                have HB9 := Lib.hid hb9
                                have HTT : Hid ((⟨((Pl.wAll G l (5 * gw)).map fun n => UInt8.ofNat n.toNat).toArray⟩ : ByteArray) = T) := by
                                  rw [← HT.out, ← HN.out, show gh = 5 by omega, Nat.mul_comm]; exact rfl
                                obtain ⟨TT, hTT⟩ : ∃ TT, (⟨((Pl.wAll G l (5 * gw)).map fun n => UInt8.ofNat n.toNat).toArray⟩ : ByteArray) = TT := ⟨_, rfl⟩
                                rw [hTT] at HTT ⊢
                                clear hb9 hk9 hTT
                                go_wp2_with fail
                                refine leaves_marks [d4, d3, d2, d1, d0] w9 HMF.out (by have h10 := hnd1 d0 (by simp); have h20 := hnd2 d0 (by simp); have h21 := hnd2 d1 (by simp); have h30 := hnd3 d0 (by simp); have h31 := hnd3 d1 (by simp); have h32 := hnd3 d2 (by simp); have h40 := hnd4 d0 (by simp); have h41 := hnd4 d1 (by simp); have h42 := hnd4 d2 (by simp); have h43 := hnd4 d3 (by simp); simp; omega) (fun w' => results_tmp2 rfl _ _ _) (fun w' a1 a2 a3 a4 a5 => ?_)
                                refine ⟨by first | (rw [HTT.out]; done) | (rw [HTT.out]; rfl), HB0.out.trans (((HD5.out.trans HB9.out).trans ⟨a1, a2, a3, by omega, fun k hk => a5 k (fun h => by simp at h; omega)⟩).mono hwb)⟩
                              case stop4 =>
                                rintro c pre W _ hh _
                                exact hh.elim
                        case stop3 =>
                          rintro c pre W _ hh _
                          exact hh.elim
                  case stop2 =>
                    rintro c pre W _ hh _
                    exact hh.elim
            case stop1 =>
              rintro c pre W _ hh _
              exact hh.elim
      case stop0 =>
        rintro c pre W _ hh _
        exact hh.elim
end Go.Proofs.Ytflpocnbmpdhiaa

/- HeadParses: the head that a text begins with, or its error, is the document's: the walk of the law. No condition. -/
import Derived.Test.YtkphfpckkmendaaHedI
import Derived.Test.YtkphfpckkmendaaHedH
import Derived.Test.YtkphfpckkmendaaHedL
import Derived.Test.YtkphfpckkmendaaHedO
import Derived.Test.YtkphfpckkmendaaHedX
import Derived.Test.YtkphfpckkmendaaHedJ
import Derived.Test.YtkphfpckkmendaaFew
import Derived.Test.YtkphfpckkmendaaNumM
import Derived.Test.YtkphfpckkmendaaConv
import Derived.Deep.DeepCutAuto
import Derived.Deep.RegionHeld3
namespace Go.Proofs.Ytkphfpckkmendaa
open Go.RowKit
set_option linter.unusedVariables false
/-- a text of the list, by its number -/
def Hp.tx (t0 t1 t2 t3 t4 : ByteArray) (i : Nat) : ByteArray := if i = 0 then t0 else if i = 1 then t1 else if i = 2 then t2 else if i = 3 then t3 else t4
theorem Hp.str_cells (t0 t1 t2 t3 t4 : ByteArray) (w : World) (T : TypeId) (i : Nat) (hi : i < 5) : (w.alloc (.cells #[.string t0, .string t1, .string t2, .string t3, .string t4] T)).cell? ⟨w.heap.size, i, none⟩ = some (.string (Hp.tx t0 t1 t2 t3 t4 i)) := by
  have : i = 0 ∨ i = 1 ∨ i = 2 ∨ i = 3 ∨ i = 4 := by omega
  rcases this with rfl | rfl | rfl | rfl | rfl <;> simp [go_sem, Hp.tx]
theorem Hp.str_cells2 {t0 t1 t2 t3 t4 : ByteArray} {w : World} {T : TypeId} {g : Nat} (hg : g = w.heap.size) (i : Nat) (hi : i < 5) : (w.alloc (.cells #[.string t0, .string t1, .string t2, .string t3, .string t4] T)).cell? ⟨g, i, none⟩ = some (.string (Hp.tx t0 t1 t2 t3 t4 i)) := by
  subst hg; exact Hp.str_cells t0 t1 t2 t3 t4 w T i hi
theorem Hp.tx_size {t0 t1 t2 t3 t4 : ByteArray} (h0 : t0.size ≤ 1000) (h1 : t1.size ≤ 1000) (h2 : t2.size ≤ 1000) (h3 : t3.size ≤ 1000) (h4 : t4.size ≤ 1000) (i : Nat) : (Hp.tx t0 t1 t2 t3 t4 i).size ≤ 1000 := by
  unfold Hp.tx; split
  · exact h0
  split
  · exact h1
  split
  · exact h2
  split
  · exact h3
  · exact h4
/-- the limits in a block of the call's own -/
def Lm (w : World) (b : Nat) (x y z : Int) : Prop := w.heap[b]? = some (.cells #[.int .i64 x, .int .i64 y, .int .i64 z] 23 (0, 0))
section
variable {w w' : World} {b : Nat} {x y z : Int}
theorem Lm.lt (h : Lm w b x y z) : b < w.heap.size := (Array.getElem?_eq_some_iff.1 h).1
theorem Lm.later (h : Lm w b x y z) (hb : Below w.heap.size w w') : Lm w' b x y z := (hb.block b h.lt).trans h
theorem Lm.new (w : World) (x y z : Int) : Lm (w.alloc (.cells #[.int .i64 x, .int .i64 y, .int .i64 z] 23)) w.heap.size x y z := World.alloc_heap_new w _
theorem Lm.cells (h : Lm w b x y z) : w.cell? ⟨b, 0, none⟩ = some (.int .i64 x) ∧ w.cell? ⟨b, 1, none⟩ = some (.int .i64 y) ∧ w.cell? ⟨b, 2, none⟩ = some (.int .i64 z) := by
  have h' : w.heap[b]? = _ := h
  refine ⟨?_, ?_, ?_⟩ <;> simp [World.cell?, h']
theorem Lm.fr (h : Lm w b x y z) : w.frozen? ⟨b, 0, none⟩ = false ∧ w.frozen? ⟨b, 1, none⟩ = false ∧ w.frozen? ⟨b, 2, none⟩ = false := by
  have h' : w.heap[b]? = _ := h
  refine ⟨?_, ?_, ?_⟩ <;> simp [World.frozen?, h']
theorem Lm.put (h : Lm w b x y z) (x' y' z' : Int) : Lm (((w.setCell ⟨b, 0, none⟩ (.int .i64 x')).setCell ⟨b, 1, none⟩ (.int .i64 y')).setCell ⟨b, 2, none⟩ (.int .i64 z')) b x' y' z' := by
  have h' : w.heap[b]? = _ := h
  have h1 := Go.heap_setCell_same w b 0 _ _ (.int .i64 x') h'
  have h2 := Go.heap_setCell_same _ b 1 _ _ (.int .i64 y') h1
  have h3 := Go.heap_setCell_same _ b 2 _ _ (.int .i64 z') h2
  simpa [Lm] using h3
end
theorem Hp.one (w : World) (x : Int) (T : TypeId) : SlK .u8 (w.alloc (.cells #[.int .u8 x] T)).drew (some ⟨w.heap.size, 0, none⟩) 1 [x] := by
  refine ⟨rfl, .inr ⟨w.heap.size, 0, rfl, fun i hi => ?_⟩⟩
  obtain rfl : i = 0 := by omega
  show (w.alloc (.cells #[.int .u8 x] T)).cell? _ = _
  rw [World.cell?_alloc_at _ _ _ _ rfl]; rfl
set_option maxRecDepth 100000 in
set_option maxHeartbeats 8000000 in
theorem headParses_walk (a0 : ByteArray) (a1w0 a1h1 a1m2 : Int) (a2k0 a2w1 a2h2 a2m3 : Int) (a3 : Int) (a4 : Int) (w : World) (w0 : a0.size ≤ maxLen) (w10 : (Lit.int .i64 a1w0).wf = true) (w11 : (Lit.int .i64 a1h1).wf = true) (w12 : (Lit.int .i64 a1m2).wf = true) (w20 : (Lit.int .i64 a2k0).wf = true) (w21 : (Lit.int .i64 a2w1).wf = true) (w22 : (Lit.int .i64 a2h2).wf = true) (w23 : (Lit.int .i64 a2m3).wf = true) (w3 : (Lit.int .i64 a3).wf = true) (w4 : (Lit.int .u8 a4).wf = true) :
    Calls Try.prog 3 #[.string a0, .agg #[.int .i64 a1w0, .int .i64 a1h1, .int .i64 a1m2], .agg #[.int .i64 a2k0, .int .i64 a2w1, .int .i64 a2h2, .int .i64 a2m3], .int .i64 a3, .int .u8 a4] w fun e w' => e = .returned (.bool true) ∧ Below w.heap.size w w' := by
  have HF : Hj.Fit ⟨a2k0, a2w1, a2h2, a2m3⟩ := ⟨wfI w20, wfI w21, wfI w22, wfI w23⟩
  have HGD := Lib.hid (hgood_any _ HF)
  have hM := Hj.may_good ⟨a2k0, a2w1, a2h2, a2m3⟩
  generalize Hj.good ⟨a2k0, a2w1, a2h2, a2m3⟩ = G at HGD hM
  have HFG := Hj.may_fit hM
  have HWR := Lib.hid (refWrite_any G HFG)
  rw [Hj.wr_may hM] at HWR
  have hts := Hj.text_size HFG
  have htp : 1 ≤ (Hj.text G).size := by
    have h := Hj.text_len G
    have : 1 ≤ (Hd.bytes G).length := by unfold Hd.bytes; simp
    omega
  obtain ⟨t, ht⟩ : ∃ t, Hj.text G = t := ⟨_, rfl⟩
  rw [ht] at HWR hts htp
  have i3 := wfI w3
  have HFW := Lib.hid (few_any a0 60 (by decide) w0)
  have hj0 := Ar.around_lt a3 (t.size : Int) (by omega)
  obtain ⟨k, hke⟩ : ∃ k : Nat, Ar.around a3 (t.size : Int) = (k : Int) := ⟨(Ar.around a3 (t.size : Int)).toNat, by omega⟩
  have HAR : Hid (∀ W, Calls Try.prog 9 #[.int .i64 a3, .int .i64 (t.size : Int)] W fun e w' => e = .returned (.int .i64 (k : Int)) ∧ W = w') := fun W => by have := aroundOf a3 (t.size : Int) i3.1 i3.2 (by omega) (by omega) W; rw [hke] at this; exact this
  have hkt : k < t.size := by omega
  obtain ⟨kd, ww, hh, mx⟩ := G
  unfold agH at HGD HWR
  simp only at HGD HWR
  clear HF hM HFG w0 w10 w11 w12 w20 w21 w22 w23 w3 i3 hj0 hke ht
  have hbx := ((Below.refl w.heap.size w).alloc (Nat.le_refl _) (.cells #[.int .i64 a1w0, .int .i64 a1h1, .int .i64 a1m2] 23)).alloc (by simp) (.cells #[.int .i64 a2k0, .int .i64 a2w1, .int .i64 a2h2, .int .i64 a2m3] 25)
  obtain ⟨W0, hW0⟩ : ∃ W0, (w.alloc (.cells #[.int .i64 a1w0, .int .i64 a1h1, .int .i64 a1m2] 23)).alloc (.cells #[.int .i64 a2k0, .int .i64 a2w1, .int .i64 a2h2, .int .i64 a2m3] 25) = W0 := ⟨_, rfl⟩
  have d0 : W0.cell? ⟨w.heap.size, 0, none⟩ = some (.int .i64 a1w0) := by rw [← hW0]; simp [go_sem]
  have d1 : W0.cell? ⟨w.heap.size, 1, none⟩ = some (.int .i64 a1h1) := by rw [← hW0]; simp [go_sem]
  have d2 : W0.cell? ⟨w.heap.size, 2, none⟩ = some (.int .i64 a1m2) := by rw [← hW0]; simp [go_sem]
  have g0 : W0.cell? ⟨w.heap.size + 1, 0, none⟩ = some (.int .i64 a2k0) := by rw [← hW0]; simp [go_sem]
  have g1 : W0.cell? ⟨w.heap.size + 1, 1, none⟩ = some (.int .i64 a2w1) := by rw [← hW0]; simp [go_sem]
  have g2 : W0.cell? ⟨w.heap.size + 1, 2, none⟩ = some (.int .i64 a2h2) := by rw [← hW0]; simp [go_sem]
  have g3 : W0.cell? ⟨w.heap.size + 1, 3, none⟩ = some (.int .i64 a2m3) := by rw [← hW0]; simp [go_sem]
  have hlt0 : w.heap.size + 1 < W0.heap.size := by rw [← hW0]; simp
  go_enter Try.func3, Try.ntmps3
  go_upto_region 1 with fail
  rw [hW0] at hbx
  try rw [hW0]
  clear hW0
  have HBX := Lib.hid hbx
  have D0 := Lib.hid d0; have D1 := Lib.hid d1; have D2 := Lib.hid d2
  clear d0 d1 d2 hbx
  go_wp2_with fail
  refine (HFW.out _).mono ?_
  rintro e w1 ⟨t0, rfl, ht0, rfl⟩
  go_wp2_with fail
  refine (HGD.out _).mono ?_
  rintro e w2 ⟨rfl, hb2⟩
  go_wp2_with fail
  refine (HWR.out _).mono ?_
  rintro e w3 ⟨rfl, hb3⟩
  have hb23 : Below W0.heap.size W0 w3 := hb2.trans (hb3.mono hb2.size)
  clear g0 g1 g2 g3 hb2 hb3
  have hsz0 : (t.size == 0) = false := by rw [beq_eq_false_iff_ne]; omega
  have hsz1 : ((t.size : Int) == 0) = false := by rw [beq_eq_false_iff_ne]; omega
  go_upto_region 6 with (go_at_call 9; refine (HAR.out _).mono ?_; rintro e w5 ⟨rfl, rfl⟩)
  have hk0 : (0 : Int) ≤ (k : Int) := by omega
  have hk1 : (k : Int) ≤ (t.size : Int) := by omega
  obtain ⟨k1, hk1e⟩ : ∃ k1 : Nat, k + 1 = k1 := ⟨_, rfl⟩
  have hkw : IntKind.i64.wrap ((k : Int) + 1) = (k1 : Int) := by rw [IntWalk.i64_in] <;> omega
  have hk2 : (k1 : Int) ≤ (t.size : Int) := by omega
  have hk3 : (0 : Int) ≤ (k1 : Int) := by omega
  have hk4 : k ≤ t.size := by omega
  have hk5 : k1 ≤ t.size := by omega
  have L0 : ¬ 9223372036854775807 < 3 + t0.size := by omega
  have C1 := Cv.conv_slk (cap := 1) (Hp.one w3 a4 5)
  obtain ⟨S1, hS1⟩ : ∃ S1, strOfNums [a4] = S1 := ⟨_, rfl⟩
  have hs1 : S1.size = 1 := by rw [← hS1, strOfNums_size]; rfl
  rw [hS1] at C1
  have hBt := Below.refl w3.heap.size w3
  go_cut [14] (fun s14 wx => ∃ g T2 T3 T4, s14 = .slice (some ⟨g, 0, none⟩) 5 5 ∧ (∀ i, i < 5 → wx.cell? ⟨g, i, none⟩ = some (.string (Hp.tx t0 t T2 T3 T4 i))) ∧ T2.size ≤ 1000 ∧ T3.size ≤ 1000 ∧ T4.size ≤ 1000 ∧ g < wx.heap.size ∧ Below w3.heap.size w3 wx)
  case first =>
    go_region_with (fail)
    all_goals
      go_wp2_with fail
      go_meet
      case rel => exact ⟨_, _, _, _, rfl, fun i hi => Hp.str_cells2 (by simp) i hi, by simp [ByteArray.size_append, ByteArray.size_extract, hs1]; omega, by simp [ByteArray.size_extract]; omega, by
        rw [ByteArray.size_append]
        have e1 : (⟨#[80, 53, 10]⟩ : ByteArray).size = 3 := rfl
        omega, by simp, by go_grown⟩
  case rest =>
    obtain ⟨g, T2, T3, T4, rfl, hcs, h2, h3, h4, hgl, hbc⟩ := hcut
    have HCS := Lib.hid hcs
    have HTS := Lib.hid (fun i => Hp.tx_size (t0 := t0) (t1 := t) (t2 := T2) (t3 := T3) (t4 := T4) (by omega) (by omega) h2 h3 h4 i)
    have HB0 := Lib.hid (HBX.out.trans ((hb23.trans (hbc.mono hb23.size)).mono HBX.out.size))
    have hb03 := hb23.trans (hbc.mono hb23.size)
    have E0 := Lib.hid (cell_later hb03 D0.out)
    have E1 := Lib.hid (cell_later hb03 D1.out)
    have E2 := Lib.hid (cell_later hb03 D2.out)
    have hwl : w.heap.size < wc.heap.size := Nat.lt_of_lt_of_le (by omega) hb03.size
    clear hcs h2 h3 h4 hbc hb03 hb23 hBt C1 hS1 hs1 L0 hkw hk0 hk1 hk2 hk3 hk4 hk5 hk1e hsz0 hsz1 hkt HAR HGD HWR HFW
    go_wp2_with fail
    go_loopg [15] 5 (fun gg s15 wr => ∃ i : Nat, i + gg = 5 ∧ s15 = .int .i64 (i : Int) ∧ Below wc.heap.size wc wr)
    case atStart => exact ⟨0, rfl, rfl, .refl _ _⟩
    case round =>
      obtain ⟨i, hig, rfl, hB⟩ := hrel
      have k0 : (0 : Int) ≤ i := Int.natCast_nonneg _
      have HB := Lib.hid (HB0.out.trans (hB.mono HB0.out.size))
      cases gk with
      | zero =>
        obtain rfl : i = 5 := by omega
        clear hB
        go_wp2_with (go_at_call 8; refine (lives6_any _).mono ?_; rintro e w9 ⟨rfl, hb9⟩)
        go_ret
        exact ⟨rfl, HB.out.trans (hb9.mono HB.out.size)⟩
      | succ gg =>
        have hi5 : (i : Int) < 5 := by omega
        have hcc := HCS.out i (by omega)
        have htz := HTS.out i
        obtain ⟨tx, htx⟩ : ∃ tx, Hp.tx t0 t T2 T3 T4 i = tx := ⟨_, rfl⟩
        rw [htx] at hcc htz
        have HCC := Lib.hid (cell_later hB hcc)
        have d0 := cell_later hB E0.out
        have d1 := cell_later hB E1.out
        have d2 := cell_later hB E2.out
        have HBr := Lib.hid hB
        have hgr : g < wr.heap.size := Nat.lt_of_lt_of_le hgl hB.size
        clear hcc htx hB
        by_cases ho : (i : Int) % 2 = 1
        · have hob : ((i : Int) % 2 == 1) = true := by simpa using ho
          have hN0 := Lm.new wr a1w0 a1h1 a1m2
          have hbl := (Below.refl wr.heap.size wr).alloc (Nat.le_refl _) (.cells #[.int .i64 a1w0, .int .i64 a1h1, .int .i64 a1m2] 23)
          obtain ⟨lb, hlb⟩ : ∃ lb, wr.heap.size = lb := ⟨_, rfl⟩
          have hlw : wr.heap.size ≤ lb := by omega
          rw [hlb] at hN0
          go_upto_region 13 with (go_at_call 10; refine (hall_any _).mono ?_; rintro e w9 ⟨rfl, hb9⟩; have hN9 := hN0.later hb9; replace hbl := hbl.trans (hb9.mono (by simp)); obtain ⟨n0, n1, n2⟩ := hN9.cells; obtain ⟨f0, f1, f2⟩ := hN9.fr; (try rw [hlb]))
          have hLm := hN9.put 4096 65536 65535
          have hbw1 := ((hbl.setCell (p := ⟨lb, 0, none⟩) hlw (.int .i64 4096)).setCell (p := ⟨lb, 1, none⟩) hlw (.int .i64 65536)).setCell (p := ⟨lb, 2, none⟩) hlw (.int .i64 65535)
          clear n0 n1 n2 f0 f1 f2
          (try rw [hlb])
          obtain ⟨W1, hW1⟩ : ∃ W1, ((w9.setCell ⟨lb, 0, none⟩ (.int .i64 4096)).setCell ⟨lb, 1, none⟩ (.int .i64 65536)).setCell ⟨lb, 2, none⟩ (.int .i64 65535) = W1 := ⟨_, rfl⟩
          rw [hW1] at hLm hbw1
          try rw [hW1]
          clear hW1 hbl hN9 hN0 hb9
          have HB13 := Lib.hid (HB.out.trans (hbw1.mono HB.out.size))
          have c0 := cell_later hbw1 HCC.out
          obtain ⟨l0, l1, l2⟩ := hLm.cells
          have HLm := Lib.hid hLm
          have hgr1 : g < W1.heap.size := Nat.lt_of_lt_of_le hgr hbw1.size
          have HPc := Lib.hid (hparse_any tx (by omega) 4096 65536 65535)
          have HPr := Lib.hid (refParse_any tx (by omega) 4096 65536 65535)
          unfold HParR hcnt at HPc
          unfold RParR at HPr
          obtain ⟨P, hP⟩ : ∃ P, Hd.parseV (Hd.limits 4096 65536 65535) (bytesOf tx) = P := ⟨_, rfl⟩
          rw [hP] at HPc HPr
          obtain ⟨⟨pk, pw, ph, pm⟩, u, er⟩ := P
          unfold agH at HPc HPr
          simp only at HPc HPr
          obtain ⟨uc, huc⟩ : ∃ uc : Int, (if er = 0 then u else 0) = uc := ⟨_, rfl⟩
          rw [huc] at HPc
          have HUC := Lib.hid huc
          have HBX1 := Lib.hid (HBr.out.trans (hbw1.mono HBr.out.size))
          clear hP huc hbw1 hLm HCC d0 d1 d2
          have hBt := Below.refl W1.heap.size W1
          go_cut [17, 18, 19] from 68 to 77 (fun s17 s18 s19 wx => ∃ ab, s17 = .pointer (some ⟨ab, 0, none⟩) ∧ Hb wx ab 36 ⟨pk, pw, ph, pm⟩ ∧ s18 = .int .i64 uc ∧ s19 = .int .i64 er ∧ Below W1.heap.size W1 wx)
          case first =>
            go_region_held3 (fun w' => w'.cell? ⟨g, i, none⟩ = some (.string tx) ∧ w'.cell? ⟨lb, 0, none⟩ = some (.int .i64 4096) ∧ w'.cell? ⟨lb, 1, none⟩ = some (.int .i64 65536) ∧ w'.cell? ⟨lb, 2, none⟩ = some (.int .i64 65535))
              (first | exact ⟨c0, l0, l1, l2⟩ | exact ⟨cell_later (by repeat' (first | (with_reducible exact hBt) | (with_reducible refine Below.alloc ?_ ?_ _) | (with_reducible refine Below.drew ?_) | (with_reducible refine below_drewN ?_ _) | (with_reducible refine Below.setCell ?_ ?_ _) | exact hBt.size | (have := hBt.size; first | omega | (simp; done) | (simp; omega)))) c0, cell_later (by repeat' (first | (with_reducible exact hBt) | (with_reducible refine Below.alloc ?_ ?_ _) | (with_reducible refine Below.drew ?_) | (with_reducible refine below_drewN ?_ _) | (with_reducible refine Below.setCell ?_ ?_ _) | exact hBt.size | (have := hBt.size; first | omega | (simp; done) | (simp; omega)))) l0, cell_later (by repeat' (first | (with_reducible exact hBt) | (with_reducible refine Below.alloc ?_ ?_ _) | (with_reducible refine Below.drew ?_) | (with_reducible refine below_drewN ?_ _) | (with_reducible refine Below.setCell ?_ ?_ _) | exact hBt.size | (have := hBt.size; first | omega | (simp; done) | (simp; omega)))) l1, cell_later (by repeat' (first | (with_reducible exact hBt) | (with_reducible refine Below.alloc ?_ ?_ _) | (with_reducible refine Below.drew ?_) | (with_reducible refine below_drewN ?_ _) | (with_reducible refine Below.setCell ?_ ?_ _) | exact hBt.size | (have := hBt.size; first | omega | (simp; done) | (simp; omega)))) l2⟩)
              (first | (go_at_call 11; refine (HPc.out _).mono ?_; rintro e w9 ⟨rfl, hb9⟩; replace hBt := bel_step (w := W1) (by repeat' (first | (with_reducible exact hBt) | (with_reducible refine Below.alloc ?_ ?_ _) | (with_reducible refine Below.drew ?_) | (with_reducible refine below_drewN ?_ _) | (with_reducible refine Below.setCell ?_ ?_ _) | exact hBt.size | (have := hBt.size; first | omega | (simp; done) | (simp; omega)))) hb9; (try replace hNB := hNB.later hb9); (try (first | have hNB := Hb.later (Hb.new _ 36 Hd.none) hb9 | have hNB := Hb.later (Hb.drew (Hb.new _ 36 Hd.none)) hb9)); (try (have hNB : Hb w9 W1.heap.size _ _ := hNB)); (try (obtain ⟨z0, z1, z2, z3⟩ := hNB.cells)); (try (obtain ⟨y0, y1, y2, y3⟩ := hNB.fr))))
            all_goals
              go_wp2_with fail
              go_meet
              case rel => first | exact ⟨_, rfl, hNB.put ⟨pk, pw, ph, pm⟩, rfl, rfl, (by repeat' (first | (with_reducible exact hBt) | (with_reducible refine Below.alloc ?_ ?_ _) | (with_reducible refine Below.drew ?_) | (with_reducible refine below_drewN ?_ _) | (with_reducible refine Below.setCell ?_ ?_ _) | exact hBt.size | (have := hBt.size; first | omega | (simp; done) | (simp; omega))))⟩ | exact ⟨_, rfl, Hb.new _ _ ⟨pk, pw, ph, pm⟩, rfl, rfl, (by repeat' (first | (with_reducible exact hBt) | (with_reducible refine Below.alloc ?_ ?_ _) | (with_reducible refine Below.drew ?_) | (with_reducible refine below_drewN ?_ _) | (with_reducible refine Below.setCell ?_ ?_ _) | exact hBt.size | (have := hBt.size; first | omega | (simp; done) | (simp; omega))))⟩
          case rest =>
            obtain ⟨ab, rfl, hA, rfl, rfl, hb2⟩ := hcut
            replace c0 := cell_later hb2 c0
            obtain ⟨l0, l1, l2⟩ := (HLm.out.later hb2).cells
            have HA := Lib.hid hA
            have HBX2 := Lib.hid (HBX1.out.trans (hb2.mono HBX1.out.size))
            clear hA hb2 hBt
            have hBt := Below.refl wc.heap.size wc
            go_upto_region 14 with fail
            go_cut [20, 21, 22] from 78 to 87 (fun s20 s21 s22 wx => ∃ rb, s20 = .pointer (some ⟨rb, 0, none⟩) ∧ Hb wx rb 25 ⟨pk, pw, ph, pm⟩ ∧ s21 = .int .i64 u ∧ s22 = .int .i64 er ∧ Below wc.heap.size wc wx)
            case first =>
              go_region_held3 (fun w' => w'.cell? ⟨g, i, none⟩ = some (.string tx) ∧ w'.cell? ⟨lb, 0, none⟩ = some (.int .i64 4096) ∧ w'.cell? ⟨lb, 1, none⟩ = some (.int .i64 65536) ∧ w'.cell? ⟨lb, 2, none⟩ = some (.int .i64 65535))
                (first | exact ⟨c0, l0, l1, l2⟩ | exact ⟨cell_later (by repeat' (first | (with_reducible exact hBt) | (with_reducible refine Below.alloc ?_ ?_ _) | (with_reducible refine Below.drew ?_) | (with_reducible refine below_drewN ?_ _) | (with_reducible refine Below.setCell ?_ ?_ _) | exact hBt.size | (have := hBt.size; first | omega | (simp; done) | (simp; omega)))) c0, cell_later (by repeat' (first | (with_reducible exact hBt) | (with_reducible refine Below.alloc ?_ ?_ _) | (with_reducible refine Below.drew ?_) | (with_reducible refine below_drewN ?_ _) | (with_reducible refine Below.setCell ?_ ?_ _) | exact hBt.size | (have := hBt.size; first | omega | (simp; done) | (simp; omega)))) l0, cell_later (by repeat' (first | (with_reducible exact hBt) | (with_reducible refine Below.alloc ?_ ?_ _) | (with_reducible refine Below.drew ?_) | (with_reducible refine below_drewN ?_ _) | (with_reducible refine Below.setCell ?_ ?_ _) | exact hBt.size | (have := hBt.size; first | omega | (simp; done) | (simp; omega)))) l1, cell_later (by repeat' (first | (with_reducible exact hBt) | (with_reducible refine Below.alloc ?_ ?_ _) | (with_reducible refine Below.drew ?_) | (with_reducible refine below_drewN ?_ _) | (with_reducible refine Below.setCell ?_ ?_ _) | exact hBt.size | (have := hBt.size; first | omega | (simp; done) | (simp; omega)))) l2⟩)
                (first | (go_at_call 12; refine (HPr.out _).mono ?_; rintro e w9 ⟨rfl, hb9⟩; replace hBt := bel_step (w := wc) (by repeat' (first | (with_reducible exact hBt) | (with_reducible refine Below.alloc ?_ ?_ _) | (with_reducible refine Below.drew ?_) | (with_reducible refine below_drewN ?_ _) | (with_reducible refine Below.setCell ?_ ?_ _) | exact hBt.size | (have := hBt.size; first | omega | (simp; done) | (simp; omega)))) hb9; (try replace hNB := hNB.later hb9); (try (first | have hNB := Hb.later (Hb.new _ 25 Hd.none) hb9 | have hNB := Hb.later (Hb.drew (Hb.new _ 25 Hd.none)) hb9)); (try (have hNB : Hb w9 wc.heap.size _ _ := hNB)); (try (obtain ⟨z0, z1, z2, z3⟩ := hNB.cells)); (try (obtain ⟨y0, y1, y2, y3⟩ := hNB.fr))))
              all_goals
                go_wp2_with fail
                go_meet
                case rel => first | exact ⟨_, rfl, hNB.put ⟨pk, pw, ph, pm⟩, rfl, rfl, (by repeat' (first | (with_reducible exact hBt) | (with_reducible refine Below.alloc ?_ ?_ _) | (with_reducible refine Below.drew ?_) | (with_reducible refine below_drewN ?_ _) | (with_reducible refine Below.setCell ?_ ?_ _) | exact hBt.size | (have := hBt.size; first | omega | (simp; done) | (simp; omega))))⟩ | exact ⟨_, rfl, Hb.new _ _ ⟨pk, pw, ph, pm⟩, rfl, rfl, (by repeat' (first | (with_reducible exact hBt) | (with_reducible refine Below.alloc ?_ ?_ _) | (with_reducible refine Below.drew ?_) | (with_reducible refine below_drewN ?_ _) | (with_reducible refine Below.setCell ?_ ?_ _) | exact hBt.size | (have := hBt.size; first | omega | (simp; done) | (simp; omega))))⟩
            case rest =>
              obtain ⟨rb, rfl, hR, rfl, rfl, hb3⟩ := hcut
              have hA2 := HA.out.later hb3
              obtain ⟨c0, c1, c2, c3⟩ := hA2.cells
              obtain ⟨r0, r1, r2, r3⟩ := hR.cells
              simp only at c0 c1 c2 c3 r0 r1 r2 r3
              have HBX3 := Lib.hid (HBX2.out.trans (hb3.mono HBX2.out.size))
              clear hA2 hR hb3 hBt l0 l1 l2
              have hq := hneq_self pk pw ph pm
              have hqg := hneq_guard
              have hBt := Below.refl wc.heap.size wc
              by_cases he : er = 0
              · have hue : uc = u := by rw [← HUC.out, if_pos he]
                subst he
                subst hue
                go_upto_region 17 with fail
                go_region_held3 (fun w' => w'.cell? ⟨ab, 0, none⟩ = some (.int .i64 pk) ∧ w'.cell? ⟨ab, 1, none⟩ = some (.int .i64 pw) ∧ w'.cell? ⟨ab, 2, none⟩ = some (.int .i64 ph) ∧ w'.cell? ⟨ab, 3, none⟩ = some (.int .i64 pm) ∧ w'.cell? ⟨rb, 0, none⟩ = some (.int .i64 pk) ∧ w'.cell? ⟨rb, 1, none⟩ = some (.int .i64 pw) ∧ w'.cell? ⟨rb, 2, none⟩ = some (.int .i64 ph) ∧ w'.cell? ⟨rb, 3, none⟩ = some (.int .i64 pm))
                  (first | exact ⟨c0, c1, c2, c3, r0, r1, r2, r3⟩ | exact ⟨cell_later hBt c0, cell_later hBt c1, cell_later hBt c2, cell_later hBt c3, cell_later hBt r0, cell_later hBt r1, cell_later hBt r2, cell_later hBt r3⟩)
                  (first | (go_at_call 13; refine (has_any ⟨pk, pw, ph, pm⟩ _).mono ?_; unfold agH; rintro e w9 ⟨rfl, hb9⟩; replace hBt := bel_step (w := wc) (by first | exact hBt | exact hBt.drew) hb9))
                all_goals
                  go_wp2_with fail
                  go_roundg gg
                  case measure => omega
                  case rel => exact ⟨i + 1, by omega, by go_num, HBX3.out.trans (hBt.mono HBX3.out.size)⟩
              · have hue : uc = 0 := by rw [← HUC.out, if_neg he]
                have hne : (er != 0) = true := by simpa using he
                subst hue
                go_upto_region 17 with fail
                go_region_held3 (fun w' => w'.cell? ⟨ab, 0, none⟩ = some (.int .i64 pk) ∧ w'.cell? ⟨ab, 1, none⟩ = some (.int .i64 pw) ∧ w'.cell? ⟨ab, 2, none⟩ = some (.int .i64 ph) ∧ w'.cell? ⟨ab, 3, none⟩ = some (.int .i64 pm) ∧ w'.cell? ⟨rb, 0, none⟩ = some (.int .i64 pk) ∧ w'.cell? ⟨rb, 1, none⟩ = some (.int .i64 pw) ∧ w'.cell? ⟨rb, 2, none⟩ = some (.int .i64 ph) ∧ w'.cell? ⟨rb, 3, none⟩ = some (.int .i64 pm))
                  (first | exact ⟨c0, c1, c2, c3, r0, r1, r2, r3⟩ | exact ⟨cell_later hBt c0, cell_later hBt c1, cell_later hBt c2, cell_later hBt c3, cell_later hBt r0, cell_later hBt r1, cell_later hBt r2, cell_later hBt r3⟩)
                  (first | (go_at_call 13; refine (has_any ⟨pk, pw, ph, pm⟩ _).mono ?_; unfold agH; rintro e w9 ⟨rfl, hb9⟩; replace hBt := bel_step (w := wc) (by first | exact hBt | exact hBt.drew) hb9))
                all_goals
                  go_wp2_with fail
                  go_roundg gg
                  case measure => omega
                  case rel => exact ⟨i + 1, by omega, by go_num, HBX3.out.trans (hBt.mono HBX3.out.size)⟩
        · have hob : ((i : Int) % 2 == 1) = false := by simpa using ho
          have hLm := Lm.new wr a1w0 a1h1 a1m2
          have hbw1 := (Below.refl wr.heap.size wr).alloc (Nat.le_refl _) (.cells #[.int .i64 a1w0, .int .i64 a1h1, .int .i64 a1m2] 23)
          obtain ⟨lb, hlb⟩ : ∃ lb, wr.heap.size = lb := ⟨_, rfl⟩
          go_upto_region 13 with fail
          obtain ⟨W1, hW1⟩ : ∃ W1, wr.alloc (.cells #[.int .i64 a1w0, .int .i64 a1h1, .int .i64 a1m2] 23) = W1 := ⟨_, rfl⟩
          rw [hW1] at hLm hbw1
          try rw [hW1]
          clear hW1
          rw [hlb] at hLm
          try rw [hlb]
          have HB13 := Lib.hid (HB.out.trans (hbw1.mono HB.out.size))
          have c0 := cell_later hbw1 HCC.out
          obtain ⟨l0, l1, l2⟩ := hLm.cells
          have HLm := Lib.hid hLm
          have hgr1 : g < W1.heap.size := Nat.lt_of_lt_of_le hgr hbw1.size
          have HPc := Lib.hid (hparse_any tx (by omega) a1w0 a1h1 a1m2)
          have HPr := Lib.hid (refParse_any tx (by omega) a1w0 a1h1 a1m2)
          unfold HParR hcnt at HPc
          unfold RParR at HPr
          obtain ⟨P, hP⟩ : ∃ P, Hd.parseV (Hd.limits a1w0 a1h1 a1m2) (bytesOf tx) = P := ⟨_, rfl⟩
          rw [hP] at HPc HPr
          obtain ⟨⟨pk, pw, ph, pm⟩, u, er⟩ := P
          unfold agH at HPc HPr
          simp only at HPc HPr
          obtain ⟨uc, huc⟩ : ∃ uc : Int, (if er = 0 then u else 0) = uc := ⟨_, rfl⟩
          rw [huc] at HPc
          have HUC := Lib.hid huc
          have HBX1 := Lib.hid (HBr.out.trans (hbw1.mono HBr.out.size))
          clear hP huc hbw1 hLm HCC d0 d1 d2
          have hBt := Below.refl W1.heap.size W1
          go_cut [17, 18, 19] from 68 to 77 (fun s17 s18 s19 wx => ∃ ab, s17 = .pointer (some ⟨ab, 0, none⟩) ∧ Hb wx ab 36 ⟨pk, pw, ph, pm⟩ ∧ s18 = .int .i64 uc ∧ s19 = .int .i64 er ∧ Below W1.heap.size W1 wx)
          case first =>
            go_region_held3 (fun w' => w'.cell? ⟨g, i, none⟩ = some (.string tx) ∧ w'.cell? ⟨lb, 0, none⟩ = some (.int .i64 a1w0) ∧ w'.cell? ⟨lb, 1, none⟩ = some (.int .i64 a1h1) ∧ w'.cell? ⟨lb, 2, none⟩ = some (.int .i64 a1m2))
              (first | exact ⟨c0, l0, l1, l2⟩ | exact ⟨cell_later (by repeat' (first | (with_reducible exact hBt) | (with_reducible refine Below.alloc ?_ ?_ _) | (with_reducible refine Below.drew ?_) | (with_reducible refine below_drewN ?_ _) | (with_reducible refine Below.setCell ?_ ?_ _) | exact hBt.size | (have := hBt.size; first | omega | (simp; done) | (simp; omega)))) c0, cell_later (by repeat' (first | (with_reducible exact hBt) | (with_reducible refine Below.alloc ?_ ?_ _) | (with_reducible refine Below.drew ?_) | (with_reducible refine below_drewN ?_ _) | (with_reducible refine Below.setCell ?_ ?_ _) | exact hBt.size | (have := hBt.size; first | omega | (simp; done) | (simp; omega)))) l0, cell_later (by repeat' (first | (with_reducible exact hBt) | (with_reducible refine Below.alloc ?_ ?_ _) | (with_reducible refine Below.drew ?_) | (with_reducible refine below_drewN ?_ _) | (with_reducible refine Below.setCell ?_ ?_ _) | exact hBt.size | (have := hBt.size; first | omega | (simp; done) | (simp; omega)))) l1, cell_later (by repeat' (first | (with_reducible exact hBt) | (with_reducible refine Below.alloc ?_ ?_ _) | (with_reducible refine Below.drew ?_) | (with_reducible refine below_drewN ?_ _) | (with_reducible refine Below.setCell ?_ ?_ _) | exact hBt.size | (have := hBt.size; first | omega | (simp; done) | (simp; omega)))) l2⟩)
              (first | (go_at_call 11; refine (HPc.out _).mono ?_; rintro e w9 ⟨rfl, hb9⟩; replace hBt := bel_step (w := W1) (by repeat' (first | (with_reducible exact hBt) | (with_reducible refine Below.alloc ?_ ?_ _) | (with_reducible refine Below.drew ?_) | (with_reducible refine below_drewN ?_ _) | (with_reducible refine Below.setCell ?_ ?_ _) | exact hBt.size | (have := hBt.size; first | omega | (simp; done) | (simp; omega)))) hb9; (try replace hNB := hNB.later hb9); (try (first | have hNB := Hb.later (Hb.new _ 36 Hd.none) hb9 | have hNB := Hb.later (Hb.drew (Hb.new _ 36 Hd.none)) hb9)); (try (have hNB : Hb w9 W1.heap.size _ _ := hNB)); (try (obtain ⟨z0, z1, z2, z3⟩ := hNB.cells)); (try (obtain ⟨y0, y1, y2, y3⟩ := hNB.fr))))
            all_goals
              go_wp2_with fail
              go_meet
              case rel => first | exact ⟨_, rfl, hNB.put ⟨pk, pw, ph, pm⟩, rfl, rfl, (by repeat' (first | (with_reducible exact hBt) | (with_reducible refine Below.alloc ?_ ?_ _) | (with_reducible refine Below.drew ?_) | (with_reducible refine below_drewN ?_ _) | (with_reducible refine Below.setCell ?_ ?_ _) | exact hBt.size | (have := hBt.size; first | omega | (simp; done) | (simp; omega))))⟩ | exact ⟨_, rfl, Hb.new _ _ ⟨pk, pw, ph, pm⟩, rfl, rfl, (by repeat' (first | (with_reducible exact hBt) | (with_reducible refine Below.alloc ?_ ?_ _) | (with_reducible refine Below.drew ?_) | (with_reducible refine below_drewN ?_ _) | (with_reducible refine Below.setCell ?_ ?_ _) | exact hBt.size | (have := hBt.size; first | omega | (simp; done) | (simp; omega))))⟩
          case rest =>
            obtain ⟨ab, rfl, hA, rfl, rfl, hb2⟩ := hcut
            replace c0 := cell_later hb2 c0
            obtain ⟨l0, l1, l2⟩ := (HLm.out.later hb2).cells
            have HA := Lib.hid hA
            have HBX2 := Lib.hid (HBX1.out.trans (hb2.mono HBX1.out.size))
            clear hA hb2 hBt
            have hBt := Below.refl wc.heap.size wc
            go_upto_region 14 with fail
            go_cut [20, 21, 22] from 78 to 87 (fun s20 s21 s22 wx => ∃ rb, s20 = .pointer (some ⟨rb, 0, none⟩) ∧ Hb wx rb 25 ⟨pk, pw, ph, pm⟩ ∧ s21 = .int .i64 u ∧ s22 = .int .i64 er ∧ Below wc.heap.size wc wx)
            case first =>
              go_region_held3 (fun w' => w'.cell? ⟨g, i, none⟩ = some (.string tx) ∧ w'.cell? ⟨lb, 0, none⟩ = some (.int .i64 a1w0) ∧ w'.cell? ⟨lb, 1, none⟩ = some (.int .i64 a1h1) ∧ w'.cell? ⟨lb, 2, none⟩ = some (.int .i64 a1m2))
                (first | exact ⟨c0, l0, l1, l2⟩ | exact ⟨cell_later (by repeat' (first | (with_reducible exact hBt) | (with_reducible refine Below.alloc ?_ ?_ _) | (with_reducible refine Below.drew ?_) | (with_reducible refine below_drewN ?_ _) | (with_reducible refine Below.setCell ?_ ?_ _) | exact hBt.size | (have := hBt.size; first | omega | (simp; done) | (simp; omega)))) c0, cell_later (by repeat' (first | (with_reducible exact hBt) | (with_reducible refine Below.alloc ?_ ?_ _) | (with_reducible refine Below.drew ?_) | (with_reducible refine below_drewN ?_ _) | (with_reducible refine Below.setCell ?_ ?_ _) | exact hBt.size | (have := hBt.size; first | omega | (simp; done) | (simp; omega)))) l0, cell_later (by repeat' (first | (with_reducible exact hBt) | (with_reducible refine Below.alloc ?_ ?_ _) | (with_reducible refine Below.drew ?_) | (with_reducible refine below_drewN ?_ _) | (with_reducible refine Below.setCell ?_ ?_ _) | exact hBt.size | (have := hBt.size; first | omega | (simp; done) | (simp; omega)))) l1, cell_later (by repeat' (first | (with_reducible exact hBt) | (with_reducible refine Below.alloc ?_ ?_ _) | (with_reducible refine Below.drew ?_) | (with_reducible refine below_drewN ?_ _) | (with_reducible refine Below.setCell ?_ ?_ _) | exact hBt.size | (have := hBt.size; first | omega | (simp; done) | (simp; omega)))) l2⟩)
                (first | (go_at_call 12; refine (HPr.out _).mono ?_; rintro e w9 ⟨rfl, hb9⟩; replace hBt := bel_step (w := wc) (by repeat' (first | (with_reducible exact hBt) | (with_reducible refine Below.alloc ?_ ?_ _) | (with_reducible refine Below.drew ?_) | (with_reducible refine below_drewN ?_ _) | (with_reducible refine Below.setCell ?_ ?_ _) | exact hBt.size | (have := hBt.size; first | omega | (simp; done) | (simp; omega)))) hb9; (try replace hNB := hNB.later hb9); (try (first | have hNB := Hb.later (Hb.new _ 25 Hd.none) hb9 | have hNB := Hb.later (Hb.drew (Hb.new _ 25 Hd.none)) hb9)); (try (have hNB : Hb w9 wc.heap.size _ _ := hNB)); (try (obtain ⟨z0, z1, z2, z3⟩ := hNB.cells)); (try (obtain ⟨y0, y1, y2, y3⟩ := hNB.fr))))
              all_goals
                go_wp2_with fail
                go_meet
                case rel => first | exact ⟨_, rfl, hNB.put ⟨pk, pw, ph, pm⟩, rfl, rfl, (by repeat' (first | (with_reducible exact hBt) | (with_reducible refine Below.alloc ?_ ?_ _) | (with_reducible refine Below.drew ?_) | (with_reducible refine below_drewN ?_ _) | (with_reducible refine Below.setCell ?_ ?_ _) | exact hBt.size | (have := hBt.size; first | omega | (simp; done) | (simp; omega))))⟩ | exact ⟨_, rfl, Hb.new _ _ ⟨pk, pw, ph, pm⟩, rfl, rfl, (by repeat' (first | (with_reducible exact hBt) | (with_reducible refine Below.alloc ?_ ?_ _) | (with_reducible refine Below.drew ?_) | (with_reducible refine below_drewN ?_ _) | (with_reducible refine Below.setCell ?_ ?_ _) | exact hBt.size | (have := hBt.size; first | omega | (simp; done) | (simp; omega))))⟩
            case rest =>
              obtain ⟨rb, rfl, hR, rfl, rfl, hb3⟩ := hcut
              have hA2 := HA.out.later hb3
              obtain ⟨c0, c1, c2, c3⟩ := hA2.cells
              obtain ⟨r0, r1, r2, r3⟩ := hR.cells
              simp only at c0 c1 c2 c3 r0 r1 r2 r3
              have HBX3 := Lib.hid (HBX2.out.trans (hb3.mono HBX2.out.size))
              clear hA2 hR hb3 hBt l0 l1 l2
              have hq := hneq_self pk pw ph pm
              have hqg := hneq_guard
              have hBt := Below.refl wc.heap.size wc
              by_cases he : er = 0
              · have hue : uc = u := by rw [← HUC.out, if_pos he]
                subst he
                subst hue
                go_upto_region 17 with fail
                go_region_held3 (fun w' => w'.cell? ⟨ab, 0, none⟩ = some (.int .i64 pk) ∧ w'.cell? ⟨ab, 1, none⟩ = some (.int .i64 pw) ∧ w'.cell? ⟨ab, 2, none⟩ = some (.int .i64 ph) ∧ w'.cell? ⟨ab, 3, none⟩ = some (.int .i64 pm) ∧ w'.cell? ⟨rb, 0, none⟩ = some (.int .i64 pk) ∧ w'.cell? ⟨rb, 1, none⟩ = some (.int .i64 pw) ∧ w'.cell? ⟨rb, 2, none⟩ = some (.int .i64 ph) ∧ w'.cell? ⟨rb, 3, none⟩ = some (.int .i64 pm))
                  (first | exact ⟨c0, c1, c2, c3, r0, r1, r2, r3⟩ | exact ⟨cell_later hBt c0, cell_later hBt c1, cell_later hBt c2, cell_later hBt c3, cell_later hBt r0, cell_later hBt r1, cell_later hBt r2, cell_later hBt r3⟩)
                  (first | (go_at_call 13; refine (has_any ⟨pk, pw, ph, pm⟩ _).mono ?_; unfold agH; rintro e w9 ⟨rfl, hb9⟩; replace hBt := bel_step (w := wc) (by first | exact hBt | exact hBt.drew) hb9))
                all_goals
                  go_wp2_with fail
                  go_roundg gg
                  case measure => omega
                  case rel => exact ⟨i + 1, by omega, by go_num, HBX3.out.trans (hBt.mono HBX3.out.size)⟩
              · have hue : uc = 0 := by rw [← HUC.out, if_neg he]
                have hne : (er != 0) = true := by simpa using he
                subst hue
                go_upto_region 17 with fail
                go_region_held3 (fun w' => w'.cell? ⟨ab, 0, none⟩ = some (.int .i64 pk) ∧ w'.cell? ⟨ab, 1, none⟩ = some (.int .i64 pw) ∧ w'.cell? ⟨ab, 2, none⟩ = some (.int .i64 ph) ∧ w'.cell? ⟨ab, 3, none⟩ = some (.int .i64 pm) ∧ w'.cell? ⟨rb, 0, none⟩ = some (.int .i64 pk) ∧ w'.cell? ⟨rb, 1, none⟩ = some (.int .i64 pw) ∧ w'.cell? ⟨rb, 2, none⟩ = some (.int .i64 ph) ∧ w'.cell? ⟨rb, 3, none⟩ = some (.int .i64 pm))
                  (first | exact ⟨c0, c1, c2, c3, r0, r1, r2, r3⟩ | exact ⟨cell_later hBt c0, cell_later hBt c1, cell_later hBt c2, cell_later hBt c3, cell_later hBt r0, cell_later hBt r1, cell_later hBt r2, cell_later hBt r3⟩)
                  (first | (go_at_call 13; refine (has_any ⟨pk, pw, ph, pm⟩ _).mono ?_; unfold agH; rintro e w9 ⟨rfl, hb9⟩; replace hBt := bel_step (w := wc) (by first | exact hBt | exact hBt.drew) hb9))
                all_goals
                  go_wp2_with fail
                  go_roundg gg
                  case measure => omega
                  case rel => exact ⟨i + 1, by omega, by go_num, HBX3.out.trans (hBt.mono HBX3.out.size)⟩
end Go.Proofs.Ytkphfpckkmendaa

/- PlainSteps: what a reader tells of each byte, and of the end, is the document's; then nothing more: the walk of the law. No condition. -/
import Derived.Test.YtldhhhmihfcalaaPlS
import Derived.Test.YtldhhhmihfcalaaFew
import Derived.Deep.DeepCutAuto
namespace Go.Proofs.Ytldhhhmihfcalaa
open Go.RowKit
set_option linter.unusedVariables false

set_option maxRecDepth 100000 in
set_option maxHeartbeats 16000000 in
theorem plainSteps_walk (a0 : ByteArray) (a1k0 a1w1 a1h2 a1m3 : Int) (w : World) (w0 : a0.size ≤ maxLen) (w10 : (Lit.int .i64 a1k0).wf = true) (w11 : (Lit.int .i64 a1w1).wf = true) (w12 : (Lit.int .i64 a1h2).wf = true) (w13 : (Lit.int .i64 a1m3).wf = true) :
    Calls Try.prog 7 #[.string a0, .agg #[.int .i64 a1k0, .int .i64 a1w1, .int .i64 a1h2, .int .i64 a1m3]] w fun e w' => e = .returned (.bool true) ∧ Below w.heap.size w w' := by
  have HF : Hj.Fit ⟨a1k0, a1w1, a1h2, a1m3⟩ := ⟨wfI w10, wfI w11, wfI w12, wfI w13⟩
  have hG := refHead_any 4 (by decide) (by decide) _ HF
  have hM := (Pl.headV_in 4 (by decide) (by decide) ⟨a1k0, a1w1, a1h2, a1m3⟩).1
  generalize Pl.headV 4 ⟨a1k0, a1w1, a1h2, a1m3⟩ = G at hG hM
  have hnw := plNew_yes G (may_fit hM) hM
  have hrn := refPlNew_any G
  unfold agR at hrn
  unfold agH at hG hnw hrn
  have HG := Lib.hid hG
  have HNW := Lib.hid hnw
  have HRN := Lib.hid hrn
  clear hG w10 w11 w12 w13 hM HF hnw hrn
  go_enter Try.func7, Try.ntmps7
  go_wp2_with fail
  refine (few_any a0 60 (by decide) w0 _).mono ?_
  rintro e w1 ⟨s, rfl, hsz, rfl⟩
  have h1 := box1' w (.cells #[.int .i64 a1k0, .int .i64 a1w1, .int .i64 a1h2, .int .i64 a1m3] 42)
  have HB1 := Lib.hid h1
  clear h1 w0
  go_wp2_with fail
  refine (HG.out _).mono ?_
  rintro e w2 ⟨rfl, hb⟩
  have HB2 := Lib.hid (HB1.out.trans (hb.mono HB1.out.size))
  clear hb
  go_upto_region 3 with fail
  generalize hW : w2.alloc (.cells #[.int .i64 G.kd, .int .i64 G.w, .int .i64 G.h, .int .i64 G.m] 42) = w3
  have HK3 : Hid (Hb w3 w2.heap.size 42 G) := by show Hb _ _ _ _; rw [← hW]; exact Hb.new w2 42 G
  have HB3 : Hid (Below w.heap.size w w3) := by show Below _ _ _; rw [← hW]; exact HB2.out.alloc HB2.out.size _
  clear hW
  obtain ⟨k0, k1, k2, k3⟩ := HK3.out.cells
  go_wp2_with fail
  refine (HNW.out _).mono ?_
  rintro e w4 ⟨b, rfl, hwb, hX, hb⟩
  have HX4 := Lib.hid hX
  have HB4 := Lib.hid (HB3.out.trans (hb.mono HB3.out.size))
  have HK4 := Lib.hid (HK3.out.later hb)
  have HWB : Hid (w.heap.size ≤ b) := Lib.hid (Nat.le_trans HB3.out.size hwb)
  clear k0 k1 k2 k3 hX hb hwb
  obtain ⟨k0, k1, k2, k3⟩ := HK4.out.cells
  go_wp2_with fail
  refine (HRN.out _).mono ?_
  rintro e w5 ⟨rfl, hb⟩
  have HX5 := Lib.hid (HX4.out.later hb)
  have HB5 := Lib.hid (HB4.out.trans (hb.mono HB4.out.size))
  clear k0 k1 k2 k3 hb
  go_upto_region 7 with fail
  generalize hW : w5.alloc (.cells #[.int .i64 G.kd, .int .i64 G.w, .int .i64 G.h, .int .i64 G.m, .int .i64 (-1), .slice none 0 0, .slice none 0 0, .int .i64 0, .int .i64 0, .int .i64 0] 77) = w6
  have HR6 : Hid (RbC w6 w5.heap.size G (-1) (.slice none 0 0) (.slice none 0 0) 0 0 0) := by show RbC _ _ _ _ _ _ _ _ _; rw [← hW]; exact RbC.new w5 _ _ _ _ _ _ _
  have HX6 : Hid (PlX w6 b (.slice none 0 0) (.slice none 0 0) (Pl.new G)) := by show PlX _ _ _ _ _; rw [← hW]; exact HX5.out.later (box1' _ _)
  have HB6 : Hid (Below w.heap.size w w6) := by show Below _ _ _; rw [← hW]; exact HB5.out.alloc HB5.out.size _
  have HZ6 : Hid (¬ PlZ b (.slice none 0 0) (.slice none 0 0) w5.heap.size) := Lib.hid fun h => by have := (HX5.out.z _ h).2; omega
  have HWK : Hid (w.heap.size ≤ w5.heap.size) := Lib.hid HB5.out.size
  clear hW HG HNW HRN HB1 HB2 HB3 HB4 HB5 HX4 HX5 HK3 HK4
  obtain ⟨k, hk⟩ : ∃ k, w5.heap.size = k := ⟨_, rfl⟩
  rw [hk] at HR6 HZ6 HWK ⊢
  clear hk
  go_wp2_with fail
  go_loopw [9] (fun u9 wr => ∃ (i : Nat) (st : Pl.S) (sv rv : Value) (a1 a2 : Option Addr) (d1 d2 : Nat), i ≤ s.size ∧ u9 = .int .i64 i ∧ PlX wr b sv rv st ∧ RbC wr k st.h (Pl.nn st) (.slice a1 st.one.length d1) (.slice a2 st.row.length d2) st.rows st.last st.e ∧ SlP .i64 wr a1 st.one.length st.one k b sv rv ∧ SlP .u64 wr a2 st.row.length st.row k b sv rv ∧ ¬ PlZ b sv rv k ∧ Below w.heap.size w wr) (fun u9 _ => s.size - (intOf u9).toNat)
  case atStart => exact ⟨0, Pl.new G, _, _, none, none, 0, 0, Nat.zero_le _, rfl, HX6.out, HR6.out, slp_nil, slp_nil, HZ6.out, HB6.out⟩
  case round =>
    obtain ⟨i, st, sv, rv, A1, A2, d1, d2, hi1, rfl, hX, hK, hS1, hS2, hZ, hB⟩ := hrel
    clear HX6 HR6 HZ6 HB6
    have HX := Lib.hid hX
    have HS1 := Lib.hid hS1
    have HS2 := Lib.hid hS2
    have HZ := Lib.hid hZ
    have HB := Lib.hid hB
    obtain ⟨hh, hhh⟩ : ∃ hh, st.h = hh := ⟨_, rfl⟩
    obtain ⟨N, hN⟩ : ∃ N, Pl.nn st = N := ⟨_, rfl⟩
    obtain ⟨n1, hn1⟩ : ∃ n1, st.one.length = n1 := ⟨_, rfl⟩
    obtain ⟨n2, hn2⟩ : ∃ n2, st.row.length = n2 := ⟨_, rfl⟩
    obtain ⟨rows, hrows⟩ : ∃ rows, st.rows = rows := ⟨_, rfl⟩
    obtain ⟨last, hlast⟩ : ∃ l, st.last = l := ⟨_, rfl⟩
    obtain ⟨er, her⟩ : ∃ e, st.e = e := ⟨_, rfl⟩
    rw [hhh, hN, hn1, hn2, hrows, hlast, her] at hK
    have HST := Lib.hid (show st.h = hh ∧ Pl.nn st = N ∧ st.one.length = n1 ∧ st.row.length = n2 ∧ st.rows = rows ∧ st.last = last ∧ st.e = er from ⟨hhh, hN, hn1, hn2, hrows, hlast, her⟩)
    have HK := Lib.hid hK
    have hkl : k < wr.heap.size := hK.lt
    obtain ⟨o0, o1, o2, o3, o4, o5, o6, o7, o8, o9⟩ := hK.cells
    obtain ⟨g0, g1, g2, g3, g4, g5, g6, g7, g8, g9⟩ := hK.frs
    have hBt : Below wr.heap.size wr wr := .refl _ _
    clear hX hK hS1 hS2 hZ hB hhh hN hn1 hn2 hrows hlast her
    by_cases hlt : i < s.size
    · have c0 : (0 : Int) ≤ (s[i].toNat : Int) := by omega
      have c1 : (s[i].toNat : Int) ≤ 255 := by have := s[i].toNat_lt; omega
      have hPP := fun (W : World) (hb : Below wr.heap.size wr W) => refPut_any HX.out.g (s[i].toNat : Int) c0 c1 W A1 A2 d1 d2 (HS1.out.sl.below hb) (HS2.out.sl.below hb)
      have hmq : (Pl.put st (s[i].toNat : Int)).2.length ≤ 100000 := by
        have h1 := Pl.put_grow st (s[i].toNat : Int)
        have h2 := HX.out.g.row
        have h3 := HX.out.g.may.m
        omega
      have HPW := Lib.hid (fun W (hX : PlX W b sv rv st) => plPut_any (s[i].toNat : Int) c0 c1 W b sv rv hX)
      obtain ⟨q, hq⟩ : ∃ q, Pl.put st (s[i].toNat : Int) = q := ⟨_, rfl⟩
      rw [hq] at hPP hmq HPW
      obtain ⟨m, hm⟩ : ∃ m, q.2.length = m := ⟨_, rfl⟩
      obtain ⟨h2, hh2⟩ : ∃ h2, q.1.h = h2 := ⟨_, rfl⟩
      obtain ⟨N2, hN2⟩ : ∃ N, Pl.nn q.1 = N := ⟨_, rfl⟩
      obtain ⟨m1, hm1⟩ : ∃ n1, q.1.one.length = n1 := ⟨_, rfl⟩
      obtain ⟨m2, hm2⟩ : ∃ n2, q.1.row.length = n2 := ⟨_, rfl⟩
      obtain ⟨rows2, hrows2⟩ : ∃ rows, q.1.rows = rows := ⟨_, rfl⟩
      obtain ⟨last2, hlast2⟩ : ∃ l, q.1.last = l := ⟨_, rfl⟩
      obtain ⟨er2, her2⟩ : ∃ e, q.1.e = e := ⟨_, rfl⟩
      have HEQ := Lib.hid (show q.1.h = h2 ∧ Pl.nn q.1 = N2 ∧ q.1.one.length = m1 ∧ q.1.row.length = m2 ∧ q.1.rows = rows2 ∧ q.1.last = last2 ∧ q.1.e = er2 from ⟨hh2, hN2, hm1, hm2, hrows2, hlast2, her2⟩)
      have hml : m ≤ 9223372036854775807 := by omega
      have HML := Lib.hid hm
      have HPC : Hid (∀ W, Below wr.heap.size wr W → Calls Try.prog 44 #[.agg #[.int .i64 hh.kd, .int .i64 hh.w, .int .i64 hh.h, .int .i64 hh.m, .int .i64 N, .slice A1 n1 d1, .slice A2 n2 d2, .int .i64 rows, .int .i64 last, .int .i64 er], .int .u8 (s[i].toNat : Int)] W fun e w' => ∃ b1 e1 b2 e2 a c, e = .returned (.tuple #[.agg #[.int .i64 h2.kd, .int .i64 h2.w, .int .i64 h2.h, .int .i64 h2.m, .int .i64 N2, .slice b1 m1 e1, .slice b2 m2 e2, .int .i64 rows2, .int .i64 last2, .int .i64 er2], .slice a m c]) ∧ QF A1 A2 st.one st.row q W w' b1 b2 a ∧ Below W.heap.size W w') := Lib.hid fun W hb => by
        have hP := hPP W hb
        unfold agR at hP
        obtain ⟨z1, z2, z3, z4, z5, z6, z7⟩ := HST.out
        rw [z1, z2, z3, z4, z5, z6, z7] at hP
        refine hP.mono ?_
        rintro e w' ⟨v2, a, c, rfl, ⟨b1, e1, b2, e2, rfl, q1, q2, f1, f2⟩, q3, f3, hb'⟩
        refine ⟨b1, e1, b2, e2, a, c, ?_, ⟨q1, q2, q3, f1, f2, f3⟩, hb'⟩
        unfold agR
        rw [hm, hh2, hN2, hm1, hm2, hrows2, hlast2, her2]
      clear hPP hmq hq hm hh2 hN2 hm1 hm2 hrows2 hlast2 her2
      go_wp2_with fail
      go_cut [10, 11] (fun s11 s12 wx => RoundR A1 A2 st.one st.row q wr m1 m2 m h2 N2 rows2 last2 er2 s11 s12 wx)
      case first =>
        go_region_held3 (fun w' => w'.cell? ⟨k, 0, none⟩ = some (.int .i64 hh.kd) ∧ w'.cell? ⟨k, 1, none⟩ = some (.int .i64 hh.w) ∧ w'.cell? ⟨k, 2, none⟩ = some (.int .i64 hh.h) ∧ w'.cell? ⟨k, 3, none⟩ = some (.int .i64 hh.m) ∧ w'.cell? ⟨k, 4, none⟩ = some (.int .i64 N) ∧ w'.cell? ⟨k, 5, none⟩ = some (.slice A1 n1 d1) ∧ w'.cell? ⟨k, 6, none⟩ = some (.slice A2 n2 d2) ∧ w'.cell? ⟨k, 7, none⟩ = some (.int .i64 rows) ∧ w'.cell? ⟨k, 8, none⟩ = some (.int .i64 last) ∧ w'.cell? ⟨k, 9, none⟩ = some (.int .i64 er))
          (first | (with_reducible exact ⟨o0, o1, o2, o3, o4, o5, o6, o7, o8, o9⟩) | exact RbC.cells (RbC.later HK.out (by repeat' (first | (with_reducible exact hBt) | (with_reducible refine Below.alloc ?_ ?_ _) | (with_reducible refine Below.drew ?_) | (with_reducible refine below_drewN ?_ _) | (with_reducible refine Below.setCell ?_ ?_ _) | exact hBt.size | (have := hBt.size; first | omega | (simp; done) | (simp; omega))))))
          (first
            | (go_at_call 44; refine (HPC.out _ (by repeat' (first | (with_reducible exact hBt) | (with_reducible refine Below.alloc ?_ ?_ _) | (with_reducible refine Below.drew ?_) | (with_reducible refine below_drewN ?_ _) | (with_reducible refine Below.setCell ?_ ?_ _) | exact hBt.size | (have := hBt.size; first | omega | (simp; done) | (simp; omega))))).mono ?_; rintro e w9 ⟨b1, e1, b2, e2, a, c, rfl, hQF, hb9⟩; have HQF := Lib.hid hQF; replace hBt := bel_step (w := wr) (by repeat' (first | (with_reducible exact hBt) | (with_reducible refine Below.alloc ?_ ?_ _) | (with_reducible refine Below.drew ?_) | (with_reducible refine below_drewN ?_ _) | (with_reducible refine Below.setCell ?_ ?_ _) | exact hBt.size | (have := hBt.size; first | omega | (simp; done) | (simp; omega)))) hb9; clear hQF; (try ((first | (with_reducible have hNB := RbC.later (RbC.new _ Hd.none 0 (.slice none 0 0) (.slice none 0 0) 0 0 0) hb9) | (with_reducible have hNB := RbC.later (RbC.drew' (RbC.new _ Hd.none 0 (.slice none 0 0) (.slice none 0 0) 0 0 0)) hb9)); (try simp only [World.size_drew, size_drewN'] at hNB))); (try (obtain ⟨z0, z1, z2, z3, z4, z5, z6, z7, z8, z9⟩ := hNB.cells)); (try (obtain ⟨y0, y1, y2, y3, y4, y5, y6, y7, y8, y9⟩ := hNB.frs))))
        all_goals
          go_wp2_with fail
          go_meet
          case rel =>
            first
              | (with_reducible exact round1 (by simp) HS1.out.sl HS2.out.sl HQF.out hNB hBt)
              | (with_reducible exact round2 (by simp) HQF.out hBt)
      case rest =>
        obtain ⟨na, b1, e1, b2, e2, a, c, rfl, rfl, hRC, hna, hBx, hQF⟩ := hcut
        have hKc := HK.out.later hBx
        have SF1 := SlP.of hQF.1 hQF.2.2.2.1 HS1.out hkl HX.out.z
        have SF2 := SlP.of hQF.2.1 hQF.2.2.2.2.1 HS2.out hkl HX.out.z
        have SA := SlP.of (A := A2) (O := st.row) (m := st.row.length) hQF.2.2.1 (.inr hQF.2.2.2.2.2) HS2.out hkl HX.out.z
        have hBw := HB.out.trans (hBx.mono HB.out.size)
        have hXc := HX.out.later hBx
        obtain ⟨p0', p1, p2, p3, p4, p5, p6, p7, p8, p9⟩ := hRC.cells
        obtain ⟨o0, o1, o2, o3, o4, o5, o6, o7, o8, o9⟩ := hKc.cells
        obtain ⟨g0, g1, g2, g3, g4, g5, g6, g7, g8, g9⟩ := hKc.frs
        have HKc := Lib.hid hKc
        have HSF1 := Lib.hid SF1
        have HSF2 := Lib.hid SF2
        have HSA := Lib.hid SA
        have HXc := Lib.hid hXc
        have HBW := Lib.hid hBw
        clear hRC hna hBx hQF hKc SF1 SF2 SA hXc hBw hBt HPC
        go_upto_region 12 with fail
        generalize hW : ((((((((((wc.setCell ⟨k, 0, none⟩ (.int .i64 h2.kd)).setCell ⟨k, 1, none⟩ (.int .i64 h2.w)).setCell ⟨k, 2, none⟩ (.int .i64 h2.h)).setCell ⟨k, 3, none⟩ (.int .i64 h2.m)).setCell ⟨k, 4, none⟩ (.int .i64 N2)).setCell ⟨k, 5, none⟩ (.slice b1 m1 e1)).setCell ⟨k, 6, none⟩ (.slice b2 m2 e2)).setCell ⟨k, 7, none⟩ (.int .i64 rows2)).setCell ⟨k, 8, none⟩ (.int .i64 last2)).setCell ⟨k, 9, none⟩ (.int .i64 er2)) = w4
        have HK4 : Hid (RbC w4 k h2 N2 (.slice b1 m1 e1) (.slice b2 m2 e2) rows2 last2 er2) := by show RbC _ _ _ _ _ _ _ _ _; rw [← hW]; exact HKc.out.putAll h2 N2 _ _ rows2 last2 er2
        have HG4 : Hid (wc.grownBy w4 (some k)) := by show World.grownBy _ _ _; rw [← hW]; exact RbC.grownAll wc k h2 N2 (.slice b1 m1 e1) (.slice b2 m2 e2) rows2 last2 er2
        have SF14 := Lib.hid (HSF1.out.put HG4.out)
        have SF24 := Lib.hid (HSF2.out.put HG4.out)
        have SA4 := Lib.hid (HSA.out.put HG4.out)
        have HX4 := Lib.hid (HXc.out.put HZ.out HG4.out)
        have HB4 := Lib.hid (HBW.out.grown HG4.out HBW.out.size (fun j ej => by cases ej; exact HWK.out))
        clear hW p0' p1 p2 p3 p4 p5 p6 p7 p8 p9 o0 o1 o2 o3 o4 o5 o6 o7 o8 o9 g0 g1 g2 g3 g4 g5 g6 g7 g8 g9 HKc HSF1 HSF2 HSA HXc HBW
        have HPU := Lib.hid (HPW.out w4 HX4.out)
        go_wp2_with fail
        refine HPU.out.mono ?_
        rintro e w7 ⟨a1, c1', sv', rv', rfl, hX7, hS7, _, hF7, hN7, hM7⟩
        have HSQ : Hid (StQ b sv' rv' q m a1 a k b1 b2 h2 N2 m1 m2 e1 e2 rows2 last2 er2 w7 w7) := Lib.hid ⟨hX7, by have h := hS7; rw [HML.out] at h; exact h, by have h := (SA4.out.sep hF7 hN7 hM7).sl; rw [HML.out] at h; exact h, HK4.out.sep hF7 HZ.out, SF14.out.sep hF7 hN7 hM7, SF24.out.sep hF7 hN7 hM7, z_new HK4.out.lt HZ.out hN7 hM7, .refl _ _⟩
        have HB7 := Lib.hid (HB4.out.trans (hF7.below HB4.out.size (fun j hj hz => by have := (HX4.out.z j hz).1; have := HWB.out; omega)))
        obtain ⟨y0, y1, y2, y3, y4, y5, y6, y7, y8, y9⟩ := HSQ.out.kc.cells
        have hSQ := HSQ.out
        clear hX7 hS7 hF7 hN7 hM7
        rw [HML.out, HEQ.out.2.2.2.2.2.1]
        go_wp2_with fail
        go_cut [84] from 61 to 84 (fun sx wx => sx = .bool false ∧ StQ b sv' rv' q m a1 a k b1 b2 h2 N2 m1 m2 e1 e2 rows2 last2 er2 w7 wx)
        case first =>
          go_region_held3 (fun w' => w'.cell? ⟨k, 7, none⟩ = some (.int .i64 rows2) ∧ w'.cell? ⟨k, 8, none⟩ = some (.int .i64 last2) ∧ w'.cell? ⟨k, 9, none⟩ = some (.int .i64 er2) ∧ StQ b sv' rv' q m a1 a k b1 b2 h2 N2 m1 m2 e1 e2 rows2 last2 er2 w7 w')
            (first | (with_reducible exact ⟨hSQ.drew.kc.c7, hSQ.drew.kc.c8, hSQ.drew.kc.c9, hSQ.drew⟩) | (with_reducible exact ⟨y7, y8, y9, hSQ⟩) | (go_split_ands; with_reducible exact ⟨(‹StQ b sv' rv' q m a1 a k b1 b2 h2 N2 m1 m2 e1 e2 rows2 last2 er2 w7 _›).drew.kc.c7, (‹StQ b sv' rv' q m a1 a k b1 b2 h2 N2 m1 m2 e1 e2 rows2 last2 er2 w7 _›).drew.kc.c8, (‹StQ b sv' rv' q m a1 a k b1 b2 h2 N2 m1 m2 e1 e2 rows2 last2 er2 w7 _›).drew.kc.c9, (‹StQ b sv' rv' q m a1 a k b1 b2 h2 N2 m1 m2 e1 e2 rows2 last2 er2 w7 _›).drew⟩) | (go_split_ands; exact ⟨(‹StQ b sv' rv' q m a1 a k b1 b2 h2 N2 m1 m2 e1 e2 rows2 last2 er2 w7 _›).kc.c7, (‹StQ b sv' rv' q m a1 a k b1 b2 h2 N2 m1 m2 e1 e2 rows2 last2 er2 w7 _›).kc.c8, (‹StQ b sv' rv' q m a1 a k b1 b2 h2 N2 m1 m2 e1 e2 rows2 last2 er2 w7 _›).kc.c9, ‹StQ b sv' rv' q m a1 a k b1 b2 h2 N2 m1 m2 e1 e2 rows2 last2 er2 w7 _›⟩) | go_keep)
            (first
              | (go_at_call 40; go_split_ands; refine (StQ.same (by assumption) hml _ _).mono ?_; rintro e w9 ⟨rfl, hq9⟩)
              | (go_at_call 46; go_split_ands; refine (StQ.rows (by assumption) HEQ.out.2.2.2.2.1).mono ?_; rintro e w9 ⟨rfl, rfl⟩)
              | (go_at_call 47; go_split_ands; refine (StQ.err (by assumption) HEQ.out.2.2.2.2.2.2).mono ?_; rintro e w9 ⟨rfl, rfl⟩))
          all_goals
            go_wp2_with fail
            go_meet
            case rel => exact ⟨rfl, by go_split_ands; assumption⟩
        case rest =>
          obtain ⟨rfl, hQ⟩ := hcut
          have HQ9 := Lib.hid hQ
          have HB9 := Lib.hid (HB7.out.trans (hQ.bel.mono HB7.out.size))
          clear hQ hSQ y0 y1 y2 y3 y4 y5 y6 y7 y8 y9
          go_wp2_with fail
          go_roundw
          case rel =>
            obtain ⟨r1, r2, r3, r4, r5, r6, r7⟩ := HEQ.out
            exact ⟨i + 1, q.1, sv', rv', b1, b2, e1, e2, by omega, by go_num, HQ9.out.x, by rw [r1, r2, r3, r4, r5, r6, r7]; exact HQ9.out.kc, HQ9.out.p1, HQ9.out.p2, HQ9.out.z, HB9.out⟩
          case measure => simp [intOf]; omega
    · go_wp2_with fail
      go_loopw [14] (fun u14 wr => ∃ (j : Nat) (st : Pl.S) (sv rv : Value) (a1 a2 : Option Addr) (d1 d2 : Nat), j ≤ 2 ∧ u14 = .int .i64 j ∧ (j ≠ 0 → st.last ≠ 0) ∧ PlX wr b sv rv st ∧ RbC wr k st.h (Pl.nn st) (.slice a1 st.one.length d1) (.slice a2 st.row.length d2) st.rows st.last st.e ∧ SlP .i64 wr a1 st.one.length st.one k b sv rv ∧ SlP .u64 wr a2 st.row.length st.row k b sv rv ∧ ¬ PlZ b sv rv k ∧ Below w.heap.size w wr) (fun u14 _ => 2 - (intOf u14).toNat)
      case atStart => exact ⟨0, st, sv, rv, A1, A2, d1, d2, by omega, rfl, (fun h => absurd rfl h), HX.out, by rw [HST.out.1, HST.out.2.1, HST.out.2.2.1, HST.out.2.2.2.1, HST.out.2.2.2.2.1, HST.out.2.2.2.2.2.1, HST.out.2.2.2.2.2.2]; exact HK.out, HS1.out, HS2.out, HZ.out, HB.out⟩
      case round =>
        clear HST HX HK HS1 HS2 HZ HB o0 o1 o2 o3 o4 o5 o6 o7 o8 o9 g0 g1 g2 g3 g4 g5 g6 g7 g8 g9 hBt hkl
        obtain ⟨j, st, sv, rv, A1, A2, d1, d2, hj, rfl, hj0, hX, hK, hS1, hS2, hZ, hB⟩ := hrel
        have HX := Lib.hid hX
        have HS1 := Lib.hid hS1
        have HS2 := Lib.hid hS2
        have HZ := Lib.hid hZ
        have HB := Lib.hid hB
        obtain ⟨hh, hhh⟩ : ∃ hh, st.h = hh := ⟨_, rfl⟩
        obtain ⟨N, hN⟩ : ∃ N, Pl.nn st = N := ⟨_, rfl⟩
        obtain ⟨n1, hn1⟩ : ∃ n1, st.one.length = n1 := ⟨_, rfl⟩
        obtain ⟨n2, hn2⟩ : ∃ n2, st.row.length = n2 := ⟨_, rfl⟩
        obtain ⟨rows, hrows⟩ : ∃ rows, st.rows = rows := ⟨_, rfl⟩
        obtain ⟨last, hlast⟩ : ∃ l, st.last = l := ⟨_, rfl⟩
        obtain ⟨er, her⟩ : ∃ e, st.e = e := ⟨_, rfl⟩
        rw [hhh, hN, hn1, hn2, hrows, hlast, her] at hK
        have HST := Lib.hid (show st.h = hh ∧ Pl.nn st = N ∧ st.one.length = n1 ∧ st.row.length = n2 ∧ st.rows = rows ∧ st.last = last ∧ st.e = er from ⟨hhh, hN, hn1, hn2, hrows, hlast, her⟩)
        have HK := Lib.hid hK
        have hkl : k < wr.heap.size := hK.lt
        obtain ⟨o0, o1, o2, o3, o4, o5, o6, o7, o8, o9⟩ := hK.cells
        obtain ⟨g0, g1, g2, g3, g4, g5, g6, g7, g8, g9⟩ := hK.frs
        have hBt : Below wr.heap.size wr wr := .refl _ _
        clear hX hK hS1 hS2 hZ hB hhh hN hn1 hn2 hrows hlast her
        by_cases hjt : j < 2
        · have hjt' : (j : Int) < 2 := by omega
          have hPP := fun (W : World) (hb : Below wr.heap.size wr W) => refEnd_any HX.out.g W A1 A2 d1 d2 (HS1.out.sl.below hb) (HS2.out.sl.below hb)
          have hmq : (Pl.fin st).2.length ≤ 100000 := by
            have h1 := Pl.fin_grow st
            have h2 := HX.out.g.row
            have h3 := HX.out.g.may.m
            omega
          have HFL := Lib.hid (Pl.fin_last HX.out.g)
          have HPW := Lib.hid (fun W (hX : PlX W b sv rv st) => plEnd_any W b sv rv hX)
          obtain ⟨q, hq⟩ : ∃ q, Pl.fin st = q := ⟨_, rfl⟩
          rw [hq] at hPP hmq HPW HFL
          obtain ⟨m, hm⟩ : ∃ m, q.2.length = m := ⟨_, rfl⟩
          obtain ⟨h2, hh2⟩ : ∃ h2, q.1.h = h2 := ⟨_, rfl⟩
          obtain ⟨N2, hN2⟩ : ∃ N, Pl.nn q.1 = N := ⟨_, rfl⟩
          obtain ⟨m1, hm1⟩ : ∃ n1, q.1.one.length = n1 := ⟨_, rfl⟩
          obtain ⟨m2, hm2⟩ : ∃ n2, q.1.row.length = n2 := ⟨_, rfl⟩
          obtain ⟨rows2, hrows2⟩ : ∃ rows, q.1.rows = rows := ⟨_, rfl⟩
          obtain ⟨last2, hlast2⟩ : ∃ l, q.1.last = l := ⟨_, rfl⟩
          obtain ⟨er2, her2⟩ : ∃ e, q.1.e = e := ⟨_, rfl⟩
          have HEQ := Lib.hid (show q.1.h = h2 ∧ Pl.nn q.1 = N2 ∧ q.1.one.length = m1 ∧ q.1.row.length = m2 ∧ q.1.rows = rows2 ∧ q.1.last = last2 ∧ q.1.e = er2 from ⟨hh2, hN2, hm1, hm2, hrows2, hlast2, her2⟩)
          have hml : m ≤ 9223372036854775807 := by omega
          have HML := Lib.hid hm
          have HPC : Hid (∀ W, Below wr.heap.size wr W → Calls Try.prog 48 #[.agg #[.int .i64 hh.kd, .int .i64 hh.w, .int .i64 hh.h, .int .i64 hh.m, .int .i64 N, .slice A1 n1 d1, .slice A2 n2 d2, .int .i64 rows, .int .i64 last, .int .i64 er]] W fun e w' => ∃ b1 e1 b2 e2 a c, e = .returned (.tuple #[.agg #[.int .i64 h2.kd, .int .i64 h2.w, .int .i64 h2.h, .int .i64 h2.m, .int .i64 N2, .slice b1 m1 e1, .slice b2 m2 e2, .int .i64 rows2, .int .i64 last2, .int .i64 er2], .slice a m c]) ∧ QF A1 A2 st.one st.row q W w' b1 b2 a ∧ Below W.heap.size W w') := Lib.hid fun W hb => by
            have hP := hPP W hb
            unfold agR at hP
            obtain ⟨z1, z2, z3, z4, z5, z6, z7⟩ := HST.out
            rw [z1, z2, z3, z4, z5, z6, z7] at hP
            refine hP.mono ?_
            rintro e w' ⟨v2, a, c, rfl, ⟨b1, e1, b2, e2, rfl, q1, q2, f1, f2⟩, q3, f3, hb'⟩
            refine ⟨b1, e1, b2, e2, a, c, ?_, ⟨q1, q2, q3, f1, f2, f3⟩, hb'⟩
            unfold agR
            rw [hm, hh2, hN2, hm1, hm2, hrows2, hlast2, her2]
          clear hPP hmq hq hm hh2 hN2 hm1 hm2 hrows2 hlast2 her2 hj0
          go_wp2_with fail
          refine (HPC.out _ (Below.refl _ _)).mono ?_
          rintro e w9 ⟨b1, e1, b2, e2, a, c, rfl, hQF9, hb9⟩
          have HQF9 := Lib.hid hQF9
          have HB9' := Lib.hid hb9
          clear hQF9 hb9 o0 o1 o2 o3 o4 o5 o6 o7 o8 o9 g0 g1 g2 g3 g4 g5 g6 g7 g8 g9
          go_upto_region 19 with fail
          generalize hWc : w9.alloc (.cells #[.int .i64 h2.kd, .int .i64 h2.w, .int .i64 h2.h, .int .i64 h2.m, .int .i64 N2, .slice b1 m1 e1, .slice b2 m2 e2, .int .i64 rows2, .int .i64 last2, .int .i64 er2] 77) = wc
          have hRC : RbC wc w9.heap.size h2 N2 (.slice b1 m1 e1) (.slice b2 m2 e2) rows2 last2 er2 := by rw [← hWc]; exact RbC.new w9 _ _ _ _ _ _ _
          have hxx : Below w9.heap.size w9 wc := by rw [← hWc]; exact box1' _ _
          have hna : wr.heap.size ≤ w9.heap.size := HB9'.out.size
          have hBx : Below wr.heap.size wr wc := HB9'.out.trans (hxx.mono hna)
          have hQF : QF A1 A2 st.one st.row q wr wc b1 b2 a := ⟨HQF9.out.1.below hxx, HQF9.out.2.1.below hxx, HQF9.out.2.2.1.below hxx, HQF9.out.2.2.2.1, HQF9.out.2.2.2.2.1, HQF9.out.2.2.2.2.2⟩
          clear hWc hxx HQF9 HB9'
          have hKc := HK.out.later hBx
          have SF1 := SlP.of hQF.1 hQF.2.2.2.1 HS1.out hkl HX.out.z
          have SF2 := SlP.of hQF.2.1 hQF.2.2.2.2.1 HS2.out hkl HX.out.z
          have SA := SlP.of (A := A2) (O := st.row) (m := st.row.length) hQF.2.2.1 (.inr hQF.2.2.2.2.2) HS2.out hkl HX.out.z
          have hBw := HB.out.trans (hBx.mono HB.out.size)
          have hXc := HX.out.later hBx
          obtain ⟨p0', p1, p2, p3, p4, p5, p6, p7, p8, p9⟩ := hRC.cells
          obtain ⟨o0, o1, o2, o3, o4, o5, o6, o7, o8, o9⟩ := hKc.cells
          obtain ⟨g0, g1, g2, g3, g4, g5, g6, g7, g8, g9⟩ := hKc.frs
          have HKc := Lib.hid hKc
          have HSF1 := Lib.hid SF1
          have HSF2 := Lib.hid SF2
          have HSA := Lib.hid SA
          have HXc := Lib.hid hXc
          have HBW := Lib.hid hBw
          clear hRC hna hBx hQF hKc SF1 SF2 SA hXc hBw hBt HPC
          go_upto_region 20 with fail
          generalize hW : ((((((((((wc.setCell ⟨k, 0, none⟩ (.int .i64 h2.kd)).setCell ⟨k, 1, none⟩ (.int .i64 h2.w)).setCell ⟨k, 2, none⟩ (.int .i64 h2.h)).setCell ⟨k, 3, none⟩ (.int .i64 h2.m)).setCell ⟨k, 4, none⟩ (.int .i64 N2)).setCell ⟨k, 5, none⟩ (.slice b1 m1 e1)).setCell ⟨k, 6, none⟩ (.slice b2 m2 e2)).setCell ⟨k, 7, none⟩ (.int .i64 rows2)).setCell ⟨k, 8, none⟩ (.int .i64 last2)).setCell ⟨k, 9, none⟩ (.int .i64 er2)) = w4
          have HK4 : Hid (RbC w4 k h2 N2 (.slice b1 m1 e1) (.slice b2 m2 e2) rows2 last2 er2) := by show RbC _ _ _ _ _ _ _ _ _; rw [← hW]; exact HKc.out.putAll h2 N2 _ _ rows2 last2 er2
          have HG4 : Hid (wc.grownBy w4 (some k)) := by show World.grownBy _ _ _; rw [← hW]; exact RbC.grownAll wc k h2 N2 (.slice b1 m1 e1) (.slice b2 m2 e2) rows2 last2 er2
          have SF14 := Lib.hid (HSF1.out.put HG4.out)
          have SF24 := Lib.hid (HSF2.out.put HG4.out)
          have SA4 := Lib.hid (HSA.out.put HG4.out)
          have HX4 := Lib.hid (HXc.out.put HZ.out HG4.out)
          have HB4 := Lib.hid (HBW.out.grown HG4.out HBW.out.size (fun j ej => by cases ej; exact HWK.out))
          clear hW p0' p1 p2 p3 p4 p5 p6 p7 p8 p9 o0 o1 o2 o3 o4 o5 o6 o7 o8 o9 g0 g1 g2 g3 g4 g5 g6 g7 g8 g9 HKc HSF1 HSF2 HSA HXc HBW
          have HPU := Lib.hid (HPW.out w4 HX4.out)
          go_wp2_with fail
          refine HPU.out.mono ?_
          rintro e w7 ⟨a1, c1', sv', rv', rfl, hX7, hS7, _, hF7, hN7, hM7⟩
          have HSQ : Hid (StQ b sv' rv' q m a1 a k b1 b2 h2 N2 m1 m2 e1 e2 rows2 last2 er2 w7 w7) := Lib.hid ⟨hX7, by have h := hS7; rw [HML.out] at h; exact h, by have h := (SA4.out.sep hF7 hN7 hM7).sl; rw [HML.out] at h; exact h, HK4.out.sep hF7 HZ.out, SF14.out.sep hF7 hN7 hM7, SF24.out.sep hF7 hN7 hM7, z_new HK4.out.lt HZ.out hN7 hM7, .refl _ _⟩
          have HB7 := Lib.hid (HB4.out.trans (hF7.below HB4.out.size (fun j hj hz => by have := (HX4.out.z j hz).1; have := HWB.out; omega)))
          obtain ⟨y0, y1, y2, y3, y4, y5, y6, y7, y8, y9⟩ := HSQ.out.kc.cells
          have hSQ := HSQ.out
          clear hX7 hS7 hF7 hN7 hM7
          rw [HML.out, HEQ.out.2.2.2.2.2.1]
          go_wp2_with fail
          go_cut [123] from 100 to 123 (fun sx wx => sx = .bool false ∧ StQ b sv' rv' q m a1 a k b1 b2 h2 N2 m1 m2 e1 e2 rows2 last2 er2 w7 wx)
          case first =>
            go_region_held3 (fun w' => w'.cell? ⟨k, 7, none⟩ = some (.int .i64 rows2) ∧ w'.cell? ⟨k, 8, none⟩ = some (.int .i64 last2) ∧ w'.cell? ⟨k, 9, none⟩ = some (.int .i64 er2) ∧ StQ b sv' rv' q m a1 a k b1 b2 h2 N2 m1 m2 e1 e2 rows2 last2 er2 w7 w')
              (first | (with_reducible exact ⟨hSQ.drew.kc.c7, hSQ.drew.kc.c8, hSQ.drew.kc.c9, hSQ.drew⟩) | (with_reducible exact ⟨y7, y8, y9, hSQ⟩) | (go_split_ands; with_reducible exact ⟨(‹StQ b sv' rv' q m a1 a k b1 b2 h2 N2 m1 m2 e1 e2 rows2 last2 er2 w7 _›).drew.kc.c7, (‹StQ b sv' rv' q m a1 a k b1 b2 h2 N2 m1 m2 e1 e2 rows2 last2 er2 w7 _›).drew.kc.c8, (‹StQ b sv' rv' q m a1 a k b1 b2 h2 N2 m1 m2 e1 e2 rows2 last2 er2 w7 _›).drew.kc.c9, (‹StQ b sv' rv' q m a1 a k b1 b2 h2 N2 m1 m2 e1 e2 rows2 last2 er2 w7 _›).drew⟩) | (go_split_ands; exact ⟨(‹StQ b sv' rv' q m a1 a k b1 b2 h2 N2 m1 m2 e1 e2 rows2 last2 er2 w7 _›).kc.c7, (‹StQ b sv' rv' q m a1 a k b1 b2 h2 N2 m1 m2 e1 e2 rows2 last2 er2 w7 _›).kc.c8, (‹StQ b sv' rv' q m a1 a k b1 b2 h2 N2 m1 m2 e1 e2 rows2 last2 er2 w7 _›).kc.c9, ‹StQ b sv' rv' q m a1 a k b1 b2 h2 N2 m1 m2 e1 e2 rows2 last2 er2 w7 _›⟩) | go_keep)
              (first
                | (go_at_call 40; go_split_ands; refine (StQ.same (by assumption) hml _ _).mono ?_; rintro e w9 ⟨rfl, hq9⟩)
                | (go_at_call 46; go_split_ands; refine (StQ.rows (by assumption) HEQ.out.2.2.2.2.1).mono ?_; rintro e w9 ⟨rfl, rfl⟩)
                | (go_at_call 47; go_split_ands; refine (StQ.err (by assumption) HEQ.out.2.2.2.2.2.2).mono ?_; rintro e w9 ⟨rfl, rfl⟩))
            all_goals
              go_wp2_with fail
              go_meet
              case rel => exact ⟨rfl, by go_split_ands; assumption⟩
          case rest =>
            obtain ⟨rfl, hQ⟩ := hcut
            have HQ9 := Lib.hid hQ
            have HB9 := Lib.hid (HB7.out.trans (hQ.bel.mono HB7.out.size))
            clear hQ hSQ y0 y1 y2 y3 y4 y5 y6 y7 y8 y9
            go_wp2_with fail
            go_roundw
            case rel =>
              obtain ⟨r1, r2, r3, r4, r5, r6, r7⟩ := HEQ.out
              exact ⟨j + 1, q.1, sv', rv', b1, b2, e1, e2, by omega, by go_num, (fun _ => by have := HFL.out; omega), HQ9.out.x, by rw [r1, r2, r3, r4, r5, r6, r7]; exact HQ9.out.kc, HQ9.out.p1, HQ9.out.p2, HQ9.out.z, HB9.out⟩
            case measure => simp [intOf]; omega
        · have hj2 : j = 2 := by omega
          have hl0 : last ≠ 0 := by rw [← HST.out.2.2.2.2.2.1]; exact hj0 (by omega)
          have hpp := plPut_any 48 (by decide) (by decide) wr b sv rv HX.out
          have hpq : Pl.put st 48 = (st, []) := by unfold Pl.put; rw [if_pos (by rw [HST.out.2.2.2.2.2.1]; exact hl0)]
          rw [hpq] at hpp
          unfold PlPutR at hpp
          simp only [HST.out.2.2.2.2.2.1] at hpp
          have HPP := Lib.hid hpp
          have hlb : (last != 0) = true := by simpa using hl0
          subst hj2
          clear hpp hpq hj0 hj
          go_wp2_with fail
          refine HPP.out.mono ?_
          rintro e w7 ⟨a, c, sv', rv', rfl, _, _, _, hF, _, _⟩
          have HK7 := Lib.hid (HK.out.sep hF HZ.out)
          have HB7 := Lib.hid (HB.out.trans (hF.below HB.out.size (fun j hj hz => by have := (HX.out.z j hz).1; have := HWB.out; omega)))
          obtain ⟨x0, x1, x2, x3, x4, x5, x6, x7, x8, x9⟩ := HK7.out.cells
          clear hF o0 o1 o2 o3 o4 o5 o6 o7 o8 o9 g0 g1 g2 g3 g4 g5 g6 g7 g8 g9 hBt
          go_wp2_with (go_at_call 41; refine (lives8_any _).mono ?_; rintro e w9 ⟨rfl, hb⟩; have HB9 := Lib.hid (HB7.out.trans (hb.mono HB7.out.size)); clear hb)
          go_ret
          exact ⟨rfl, HB9.out⟩
end Go.Proofs.Ytldhhhmihfcalaa

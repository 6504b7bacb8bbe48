/- The head that a text begins with, by the document: one arm. Condition: the text is short. -/
import Derived.Test.YtkjkepnailamnaaGreatZgAE
namespace Go.Proofs.YtkjkepnailamnaaGreat
open Go.RowKit
set_option linter.unusedVariables false
set_option maxRecDepth 100000 in
set_option maxHeartbeats 64000000 in
theorem refParse_T (s : ByteArray) (hs : s.size ≤ 100000) (a b c : Int) (w : World) (h : 2 < s.size) (z1 : (s[0].toNat : Int) = 80) (z3 : 49 ≤ (s[1].toNat : Int) ∧ (s[1].toNat : Int) ≤ 54) (z5 : Tk.blank (s[2].toNat : Int) = true ∨ (s[2].toNat : Int) = 35) (hbt : Hd.bits ((s[1].toNat : Int) - 48) = true) :
    Calls Tryz.prog 60 #[.string s, .agg #[.int .i64 a, .int .i64 b, .int .i64 c]] w (RParR s (Hd.limits a b c) w) := by
  have HL := Lib.hid (Hd.limits_ok a b c)
  have HLM := Lib.hid (refLimits_any a b c)
  generalize hL : Hd.limits a b c = L at HL HLM
  obtain ⟨kd, hkd⟩ : ∃ kd, (s[1].toNat : Int) - 48 = kd := ⟨_, rfl⟩
  have p0 : 0 < s.size := by omega
  have p1 : 1 < s.size := by omega
  have e3 : bytesOf s = (80 : Int) :: (s[1].toNat : Int) :: (s[2].toNat : Int) :: (bytesOf s).drop 3 := by
    have q0 := bytes_at0 p0
    rw [bytes_at1 p1, bytes_at2 h, z1] at q0
    exact q0
  have hV0 : Hd.parseV L (bytesOf s) = Hd.parseF L (Hd.s3 kd) 2 ((bytesOf s).drop 2) := (congrArg (Hd.parseV L) e3).trans ((Hd.pv_go z3 z5 _).trans (by rw [hkd, ← bytes_at2 h]))
  have hk1 : 1 ≤ kd := by omega
  have hk6 : kd ≤ 6 := by omega
  have hgd0 : Hd.Good L (Hd.s3 kd) := by
    have := Hd.L.at_ok HL.out 0
    have hm := Hd.many_at kd
    exact ⟨(show (3 : Nat) ≤ 5 by decide), fun _ => ⟨Tk.good_new (show (0 : Int) ≤ L.at 0 by omega), Nat.zero_le _⟩, fun h => absurd h (show ¬ (3 : Nat) ≤ 2 by decide), fun h => absurd h (show ¬ (3 : Nat) ≤ 1 by decide), fun _ _ => ⟨hk1, hk6⟩, fun _ => (show 0 < Hd.many kd by omega), fun h => absurd h (show ¬ (3 : Nat) = 5 by decide), Nat.zero_le _⟩
  obtain ⟨g, hg⟩ : ∃ g, Hd.bits kd = g := ⟨_, rfl⟩
  have HBG : Hid (g = true) := Lib.hid (by rw [← hg, ← hkd]; exact hbt)
  clear hbt
  have HBT : Hid (∀ W, Calls Tryz.prog 90 #[.int .i64 kd] W fun e w' => e = .returned (.bool g) ∧ W = w') := fun W => by have := bits_any kd W; rw [hg] at this; exact this
  obtain ⟨M, hM⟩ : ∃ M, Hd.many kd = M := ⟨_, rfl⟩
  have HMM : Hid (M = if g = true then 2 else 3) := by show _ = _; rw [← hM, ← hg]; rfl
  have HM := Lib.hid hM
  have hMat : M = 2 ∨ M = 3 := by rw [← hM]; exact Hd.many_at kd
  have HA0 : Hid (AtR s L kd M 0 2 (Hd.s3 kd) (if g = true then 1 else 0)) := by
    refine ⟨by omega, by omega, rfl, rfl, rfl, hgd0, fun h2 => ⟨?_, rfl⟩, fun _ => ⟨rfl, hV0⟩, fun h0 => by omega⟩
    have := HMM.out
    cases g with
    | true => rfl
    | false => rw [if_neg (by decide)] at this; omega
  have HBL : Hid (∀ W, Calls Tryz.prog 78 #[.int .u8 (s[2].toNat : Int)] W fun e w' => e = .returned (.bool (Tk.blank (s[2].toNat : Int))) ∧ W = w') := fun W => refBlank_any (s[2].toNat : Int) (by omega) (by have := s[2].toNat_lt; omega) W
  have HLE := Lib.hid hL
  have g1 : (0 : Int) < (s.size : Int) := by omega
  have g2 : (1 : Int) < (s.size : Int) := by omega
  have g3 : (2 : Int) < (s.size : Int) := by omega
  have g4 : ¬ (s.size : Int) < 3 := by omega
  have k1 : ((s[0].toNat : Int) != 80) = false := by simp [z1]
  have k2 : ¬ (s[1].toNat : Int) < 49 := by omega
  have k3 : ¬ 54 < (s[1].toNat : Int) := by omega
  have e1 : (0 : Int) ≤ (s[1].toNat : Int) - 48 := by omega
  have e4 : (s[1].toNat : Int) - 48 ≤ 6 := by omega
  have e5 := hkd
  obtain ⟨W, hW⟩ : ∃ W, (w.alloc (Obj.cells #[Value.int IntKind.i64 a, Value.int IntKind.i64 b, Value.int IntKind.i64 c] 24)).alloc (Obj.cells #[Value.int IntKind.i64 0, Value.int IntKind.i64 0, Value.int IntKind.i64 0, Value.int IntKind.i64 0] 112) = W := ⟨_, rfl⟩
  have hBW : Below w.heap.size w W := by rw [← hW]; exact Hj.zero_bel w _ _
  have hZ : Hb W (w.heap.size + 1) 112 Hd.none := by rw [← hW]; exact Hj.zero_at w _
  have hlim : ∀ {o : Nat} {x : Int}, (w.alloc (Obj.cells #[Value.int IntKind.i64 a, Value.int IntKind.i64 b, Value.int IntKind.i64 c] 24)).cell? ⟨w.heap.size, o, none⟩ = some (.int .i64 x) → W.cell? ⟨w.heap.size, o, none⟩ = some (.int .i64 x) := fun {o x} hx => by
    rw [← hW]
    exact cell_later (((Below.refl _ (w.alloc (Obj.cells #[Value.int IntKind.i64 a, Value.int IntKind.i64 b, Value.int IntKind.i64 c] 24)))).alloc (Nat.le_refl _) _) hx
  have i0 := hlim (o := 0) (x := a) (by simp [go_sem])
  have i1 := hlim (o := 1) (x := b) (by simp [go_sem])
  have i2 := hlim (o := 2) (x := c) (by simp [go_sem])
  have hWz : W.heap.size = w.heap.size + 2 := by rw [← hW]; simp
  clear hlim
  clear e3 hV0 z1 z3 hgd0 hkd hM hg hk1 hk6
  go_enter Tryz.func60, Tryz.ntmps60
  go_upto_region 5 with (fail)
  try rw [hW]
  go_cut [52] (fun s52 wx => s52 = .bool false ∧ wx = W)
  case first =>
    rcases z5 with h5 | h5
    · rw [h5] at HBL
      by_cases h35 : (s[2].toNat : Int) = 35
      · have k4 : ((s[2].toNat : Int) != 35) = false := by simp [h35]
        clear h35 h5
        go_wp2_with (go_at_call 78; refine (HBL.out _).mono ?_; rintro e w9 ⟨rfl, rfl⟩)
        go_meet
        case rel => exact ⟨rfl, rfl⟩
      · have k4 : ((s[2].toNat : Int) != 35) = true := by simpa using h35
        clear h35 h5
        go_wp2_with (go_at_call 78; refine (HBL.out _).mono ?_; rintro e w9 ⟨rfl, rfl⟩)
        go_meet
        case rel => exact ⟨rfl, rfl⟩
    · have k4 : ((s[2].toNat : Int) != 35) = false := by simp [h5]
      clear h5
      go_wp2_with fail
      go_meet
      case rel => exact ⟨rfl, rfl⟩
  case rest =>
    obtain ⟨rfl, rfl⟩ := hcut
    clear hW HBL z5
    cases g with
    | true =>
      obtain rfl : M = 2 := HMM.out
      have HA0 : Hid (AtR s L kd 2 0 2 (Hd.s3 kd) 1) := HA0
      have hWn := Hb.new wc 112 ⟨kd, 0, 0, 1⟩
      have hZn := hZ.alloc (.cells #[.int .i64 kd, .int .i64 0, .int .i64 0, .int .i64 1] 112)
      have hBn := hBW.alloc hBW.size (.cells #[.int .i64 kd, .int .i64 0, .int .i64 0, .int .i64 1] 112)
      go_wp2_with (go_at_call 90; refine (HBT.out _).mono ?_; rintro e w2 ⟨rfl, rfl⟩)
      refine (HLM.out _).mono ?_
      rintro e w3 ⟨gb, rfl, hgb, c0, c1, c2, hgl, hb3⟩
      (try clear e5); (try clear e4); (try clear e1)
      obtain ⟨rb, hrb⟩ : ∃ rb, w.heap.size + 1 = rb := ⟨_, rfl⟩
      obtain ⟨hb, hhb⟩ : ∃ hb, w.heap.size + 2 = hb := ⟨_, rfl⟩
      have hne1 : rb ≠ hb := by omega
      have hne2 : gb ≠ hb := by have h := hgb; simp at h; omega
      have hwh : w.heap.size ≤ hb := by omega
      have hwr : w.heap.size ≤ rb := by omega
      rw [hrb] at hZn
      rw [hWz, hhb] at hWn
      have hMem : Mem w w3 rb hb gb L ⟨kd, 0, 0, 1⟩ := ⟨hZn.later hb3, hWn.later hb3, c0, c1, c2, hBn.trans (hb3.mono hBn.size)⟩
      have MEM := Lib.hid hMem
      have N1 := Lib.hid hne1
      have N2 := Lib.hid hne2
      have NW := Lib.hid hwh
      have NR := Lib.hid hwr
      clear hMem hWn hZn hBn hb3 c0 c1 c2 hgb hgl hZ hBW i0 i1 i2 hWz hne1 hne2 hwh hwr
      try rw [hrb]
      try rw [hhb]
      clear hrb hhb
      go_wp2_with fail
      try rw [hhb]
      go_loopg [10, 11] 2 (fun gk s10 s11 wr => ∃ (i at' : Nat) (t0 : Hd.S) (mx : Int), i + gk = 2 ∧ s10 = .int .i64 at' ∧ s11 = .int .i64 i ∧ AtR s L kd 2 i at' t0 mx ∧ Mem w wr rb hb gb L ⟨kd, t0.v0, t0.v1, mx⟩)
      case atStart => exact ⟨0, 2, Hd.s3 kd, 1, rfl, rfl, rfl, HA0.out, MEM.out⟩
      case round =>
        obtain ⟨i, at', t0, mx, hik, rfl, rfl, hA, hMem⟩ := hrel
        have HAT := Lib.hid hA
        have MEM2 := Lib.hid hMem
        obtain ⟨r0, r1, r2, r3⟩ := hMem.res.cells
        obtain ⟨f0, f1, f2, f3⟩ := hMem.res.fr
        obtain ⟨n0, n1, n2, n3⟩ := hMem.head.cells
        simp only at n0 n1 n2 n3
        cases gk with
        | zero =>
          obtain rfl : i = 2 := by omega
          have HV := Lib.hid (hA.2.2.2.2.2.2.2.2 rfl)
          have HKD := Lib.hid hA.2.2.1
          have hnr := NR.out
          clear hA hMem
          go_wp2
          (try simp only [Exit.inBlock, Exit.then])
          refine bodyPost_ret (Hj.ret3 Tryz.results60 _ _ _ _ rfl (load_rh (MEM2.out.res.put ⟨kd, t0.v0, t0.v1, mx⟩))) rfl ?_
          (try rw [HLE.out])
          refine rpar_fin HV.out.1 rfl ?_ ((((MEM2.out.bel.setCell hnr _).setCell hnr _).setCell hnr _).setCell hnr _)
          unfold Hd.hd; rw [HKD.out, HV.out.2]
        | succ gk' =>
          have hi : i < 2 := by omega
          have hiI : (i : Int) < 2 := by omega
          have hi0 : (0 : Int) ≤ (i : Int) := by omega
          have hi3 : (i : Int) < 3 := by omega
          have hcm := hat_cell hMem.c0 hMem.c1 hMem.c2 i (by omega)
          have HMI := Lib.hid (Hd.L.at_ok HL.out i)
          obtain ⟨m, hm⟩ : ∃ m, L.at i = m := ⟨_, rfl⟩
          have HMLI := Lib.hid hm
          rw [hm] at hcm HMI
          have hp := (hA.2.2.2.2.2.2.2.1 hi)
          have HP := Lib.hid hp
          have HT0 := Lib.hid hA.2.2.2.2.1
          have hat : at' ≤ s.size := hA.2.1
          clear hA hMem hm hp n0 n1 n2 n3 r0 r1 r2 r3 f0 f1 f2 f3
          go_wp2_with fail
          refine (refNew_any m _).mono ?_
          unfold agS
          rintro e w5 ⟨rfl, hb5⟩
          have MEM5 := Lib.hid (MEM2.out.later hb5)
          have hrlt : rb < w5.heap.size := MEM5.out.res.lt
          have hhlt : hb < w5.heap.size := MEM5.out.head.lt
          have hw5 : w.heap.size ≤ w5.heap.size := MEM5.out.bel.size
          have HW5 := Lib.hid hw5
          clear hb5 hcm
          obtain ⟨nb, hnb⟩ : ∃ nb, w5.heap.size = nb := ⟨_, rfl⟩
          have hN0 := Nb.new w5 0 0 m 9
          have hB0 : Below w5.heap.size w5 (w5.alloc (.cells #[.int .i64 0, .int .i64 0, .int .i64 m, .int .i64 9] 173)) := (Below.refl _ _).alloc (Nat.le_refl _) _
          rw [hnb] at hN0 hB0 hrlt hhlt hw5
          have HNB := Lib.hid hnb
          have HN0 := Lib.hid hN0
          have HB0 := Lib.hid hB0
          have NRB : Hid (rb ≠ nb) := Nat.ne_of_lt hrlt
          have NHB : Hid (hb ≠ nb) := Nat.ne_of_lt hhlt
          have hrne : ¬ rb = nb := NRB.out
          have hhne : ¬ hb = nb := NHB.out
          clear hN0 hB0
          go_wp2_with fail
          try rw [hnb]
          clear hnb
          go_loopg [10, 13] (s.size - at') (fun g2 s10 s13 wi => ∃ (a2 : Nat) (t : Tk.S), a2 + g2 = s.size ∧ s10 = .int .i64 a2 ∧ s13 = .int .i64 (Tk.st t) ∧ Tk.Good m t ∧ Nb wi nb t.k t.n m t.e ∧ Below nb w5 wi ∧ Hd.parseV L (bytesOf s) = Hd.parseF L (Hd.take t0 t) a2 ((bytesOf s).drop a2))
          case atStart =>
            have h1 := HP.out
            refine ⟨at', Tk.new, by omega, rfl, rfl, Tk.good_new (by have := HMI.out; omega), HN0.out, HB0.out, ?_⟩
            rw [Hd.take_more (by decide), ← HT0.out, Hd.tok_self h1.1]
            exact h1.2
          case round =>
            obtain ⟨a2, t, hag, rfl, rfl, hG, hN, hBi, hv⟩ := hrel
            have HBI := Lib.hid (show Below w5.heap.size w5 wr by rw [HNB.out]; exact hBi)
            have MEM6 := Lib.hid (MEM5.out.later HBI.out)
            have HBN := Lib.hid hBi
            have HN := Lib.hid hN
            have HG := Lib.hid hG
            have HV := Lib.hid hv
            obtain ⟨n0, n1, n2, n3⟩ := hN.cells
            obtain ⟨f0, f1, f2, f3⟩ := hN.fr
            have hnlt : nb < wr.heap.size := hN.lt
            have hkc := hG.1
            have hnr := NR.out
            clear hG hN hBi hv
            by_cases hk3 : t.k ≤ 3
            · rw [Tk.st_more hk3]
              by_cases hlt : a2 < s.size
              · cases gk with
                | zero => omega
                | succ g2 =>
                  have c0 : (0 : Int) ≤ (s[a2].toNat : Int) := by omega
                  have c1 : (s[a2].toNat : Int) ≤ 255 := by have := s[a2].toNat_lt; omega
                  obtain ⟨t', ht'⟩ : ∃ t', Tk.put m t (s[a2].toNat : Int) = t' := ⟨_, rfl⟩
                  have HP2 := (put_both HG.out (by have := HMI.out; omega) (s[a2].toNat : Int) c0 c1).2
                  have hG' := Tk.good_put HG.out (s[a2].toNat : Int)
                  rw [ht'] at HP2 hG'
                  have HG' := Lib.hid hG'
                  have HV' : Hid (Hd.parseV L (bytesOf s) = Hd.parseF L (Hd.take t0 t') (a2 + 1) ((bytesOf s).drop (a2 + 1))) := by
                    show _ = _
                    rw [HV.out, Hd.take_more hk3, bytesOf_drop s a2 hlt, Hd.parse_cons _ _ _ (show (3 : Nat) ≤ 3 by decide), Hd.put_in rfl]
                    show Hd.parseF L (Hd.take (t0.tok t) (Tk.put (L.at t0.i) t (s[a2].toNat : Int))) _ _ = _
                    rw [HAT.out.2.2.2.1, HMLI.out, ht']
                    exact Hd.parse_tok L t0 t t' _ _
                  obtain ⟨k, hk⟩ : ∃ k : Nat, t.k = k := ⟨_, rfl⟩
                  obtain ⟨n, hn⟩ : ∃ n : Int, t.n = n := ⟨_, rfl⟩
                  obtain ⟨er, her⟩ : ∃ er : Int, t.e = er := ⟨_, rfl⟩
                  rw [hk] at n0
                  rw [hn] at n1
                  rw [her] at n3
                  rw [hk, hn, her] at HP2
                  obtain ⟨k', hk'⟩ : ∃ k' : Nat, t'.k = k' := ⟨_, rfl⟩
                  obtain ⟨n', hn'⟩ : ∃ n' : Int, t'.n = n' := ⟨_, rfl⟩
                  obtain ⟨e', he'⟩ : ∃ e' : Int, t'.e = e' := ⟨_, rfl⟩
                  obtain ⟨q, hq⟩ : ∃ q : Int, Tk.st t' = q := ⟨_, rfl⟩
                  rw [hk', hn', he', hq] at HP2
                  have HPC : Hid (∀ W, Calls Tryz.prog 103 #[.agg #[.int .i64 k, .int .i64 n, .int .i64 m, .int .i64 er], .int .u8 (s[a2].toNat : Int)] W fun e w' => e = .returned (.tuple #[.agg #[.int .i64 k', .int .i64 n', .int .i64 m, .int .i64 e'], .int .i64 q]) ∧ Below W.heap.size W w') := fun W => (HP2 W).mono fun e w' hh => hh
                  have HQ : Hid (t'.k = k' ∧ t'.n = n' ∧ t'.e = e' ∧ Tk.st t' = q) := ⟨hk', hn', he', hq⟩
                  have hBt : Below wr.heap.size wr wr := .refl _ _
                  clear HP2 hG' ht' hk hn her hk' hn' he' hq
                  go_wp2
                  go_cut [14, 15] (fun s14 s15 wx => ∃ na, s14 = .pointer (some ⟨na, 0, none⟩) ∧ s15 = .int .i64 q ∧ Nb wx na k' n' m e' ∧ na ≠ nb ∧ Below wr.heap.size wr wx)
                  case first =>
                    go_region_held3 (fun w' => w'.cell? ⟨nb, 0, none⟩ = some (.int .i64 k) ∧ w'.cell? ⟨nb, 1, none⟩ = some (.int .i64 n) ∧ w'.cell? ⟨nb, 2, none⟩ = some (.int .i64 m) ∧ w'.cell? ⟨nb, 3, none⟩ = some (.int .i64 er))
                      (first | exact ⟨n0, n1, n2, n3⟩ | exact ⟨cell_later (by repeat' (first | (with_reducible first | exact hBt | refine Below.alloc ?_ ?_ _ | refine Below.drew ?_ | refine below_drewN ?_ _ | refine Below.setCell ?_ ?_ _) | exact hBt.size | (have := hBt.size; first | omega | (simp; done) | (simp; omega)))) n0, cell_later (by repeat' (first | (with_reducible first | exact hBt | refine Below.alloc ?_ ?_ _ | refine Below.drew ?_ | refine below_drewN ?_ _ | refine Below.setCell ?_ ?_ _) | exact hBt.size | (have := hBt.size; first | omega | (simp; done) | (simp; omega)))) n1, cell_later (by repeat' (first | (with_reducible first | exact hBt | refine Below.alloc ?_ ?_ _ | refine Below.drew ?_ | refine below_drewN ?_ _ | refine Below.setCell ?_ ?_ _) | exact hBt.size | (have := hBt.size; first | omega | (simp; done) | (simp; omega)))) n2, cell_later (by repeat' (first | (with_reducible first | exact hBt | refine Below.alloc ?_ ?_ _ | refine Below.drew ?_ | refine below_drewN ?_ _ | refine Below.setCell ?_ ?_ _) | exact hBt.size | (have := hBt.size; first | omega | (simp; done) | (simp; omega)))) n3⟩)
                      (first
                        | (go_at_call 103; refine (HPC.out _).mono ?_; rintro e w9 ⟨rfl, hb9⟩; replace hBt := bel_step (w := wr) (by repeat' (first | (with_reducible first | exact hBt | refine Below.alloc ?_ ?_ _ | refine Below.drew ?_ | refine below_drewN ?_ _ | refine Below.setCell ?_ ?_ _) | exact hBt.size | (have := hBt.size; first | omega | (simp; done) | (simp; omega)))) hb9; have hsz9 := hBt.size; (try (have hnl9 := hNB.lt)); (try replace hNB := hNB.later hb9); (try ((first | have hNB := Nb.later (Nb.new _ _ _ _ _) hb9 | have hNB := Nb.later (Nb.drew (Nb.new _ _ _ _ _)) hb9); (try simp only [World.size_drew, size_drewN'] at hNB))); (try (obtain ⟨z0, z1, z2, z3⟩ := hNB.cells)); (try (obtain ⟨y0, y1, y2, y3⟩ := hNB.fr))))
                    all_goals
                      go_wp2_with fail
                      go_meet
                      case rel =>
                        first
                          | exact ⟨_, rfl, rfl, hNB.put _ _ _ _, (Nat.ne_of_gt hnlt), (by repeat' (first | (with_reducible first | exact hBt | refine Below.alloc ?_ ?_ _ | refine Below.drew ?_ | refine below_drewN ?_ _ | refine Below.setCell ?_ ?_ _) | exact hBt.size | (have := hBt.size; first | omega | (simp; done) | (simp; omega))))⟩
                          | exact ⟨_, rfl, rfl, Nb.new _ _ _ _ _, (Nat.ne_of_gt (Nat.lt_of_lt_of_le hnlt hBt.size)), (by repeat' (first | (with_reducible first | exact hBt | refine Below.alloc ?_ ?_ _ | refine Below.drew ?_ | refine below_drewN ?_ _ | refine Below.setCell ?_ ?_ _) | exact hBt.size | (have := hBt.size; first | omega | (simp; done) | (simp; omega))))⟩
                  case rest =>
                    obtain ⟨na, rfl, rfl, hNc, hne, hBx⟩ := hcut
                    have hN1 := HN.out.later hBx
                    have HN1 := Lib.hid (show Nb _ nb t.k t.n m t.e from hN1)
                    have hBw : Below nb w5 _ := HBN.out.trans (hBx.mono (Nat.le_of_lt hnlt))
                    obtain ⟨p0, p1, p2, p3⟩ := hNc.cells
                    obtain ⟨o0, o1, o2, o3⟩ := hN1.cells
                    obtain ⟨g0, g1', g2', g3'⟩ := hN1.fr
                    have HBW := Lib.hid hBw
                    clear hBx hBt hNc hN1 hBw n0 n1 n2 n3 f0 f1 f2 f3
                    go_wp2
                    go_roundg g2
                    case measure => omega
                    case rel =>
                      have h := HQ.out
                      refine ⟨a2 + 1, t', by omega, by go_num, by rw [h.2.2.2], HG'.out, ?_, (((HBW.out.setCell (Nat.le_refl _) _).setCell (Nat.le_refl _) _).setCell (Nat.le_refl _) _).setCell (Nat.le_refl _) _, HV'.out⟩
                      rw [h.1, h.2.1, h.2.2.1]
                      exact HN1.out.put k' n' m e'
              · have HV2 : Hid (Hd.parseV L (bytesOf s) = (Hd.none, (a2 : Int), 6)) := by show _ = _; rw [HV.out, Hd.take_more hk3, List.drop_eq_nil_of_le (by rw [bytesOf_length]; omega), Hd.parse_nil _ (show (3 : Nat) ≤ 3 by decide)]
                obtain ⟨r0, r1, r2, r3⟩ := MEM6.out.res.cells
                obtain ⟨l0, l1, l2, l3⟩ := MEM6.out.res.fr
                clear hk3 hkc n0 n1 n2 n3 f0 f1 f2 f3
                go_wp2
                (try simp only [Exit.inBlock, Exit.then])
                refine bodyPost_ret (Hj.ret3 Tryz.results60 _ _ _ _ rfl (load_rh (MEM6.out.res.put Hd.none))) rfl ?_
                (try rw [HLE.out])
                exact rpar_fin HV2.out (by go_num) rfl ((((MEM6.out.bel.setCell hnr _).setCell hnr _).setCell hnr _).setCell hnr _)
            · obtain ⟨r0, r1, r2, r3⟩ := MEM6.out.res.cells
              obtain ⟨l0, l1, l2, l3⟩ := MEM6.out.res.fr
              by_cases k5 : t.k = 5
              · rw [Tk.st_wrong k5]
                have HV2 : Hid (Hd.parseV L (bytesOf s) = (Hd.none, (a2 : Int), t.e)) := by
                  show _ = _
                  rw [HV.out, Hd.take_wrong k5, Hd.parse_wrong _ _ rfl]; rfl
                obtain ⟨er, her⟩ : ∃ er : Int, t.e = er := ⟨_, rfl⟩
                rw [her] at n3 HV2
                clear her hk3 hkc k5
                go_wp2_with fail
                go_region_with (fail)
                all_goals
                  go_wp2
                  (try simp only [Exit.inBlock, Exit.then])
                  refine bodyPost_ret (Hj.ret3 Tryz.results60 _ _ _ _ rfl (load_rh (MEM6.out.res.put Hd.none))) rfl ?_
                  (try rw [HLE.out])
                  exact rpar_fin HV2.out (by go_num) rfl (Below.drew ((((MEM6.out.bel.setCell hnr _).setCell hnr _).setCell hnr _).setCell hnr _))
              · have k4 : t.k = 4 := by omega
                rw [Tk.st_over k4]
                obtain ⟨nn, hnn⟩ : ∃ nn : Int, t.n = nn := ⟨_, rfl⟩
                rw [hnn] at n1
                have HNN := Lib.hid hnn
                have K4 := Lib.hid k4
                by_cases hz : nn = 0
                · have HV2 : Hid (Hd.parseV L (bytesOf s) = (Hd.none, (a2 : Int), 4)) := by
                    show _ = _
                    rw [HV.out, show Hd.take t0 t = t0.wrong 4 by unfold Hd.take; rw [if_neg (by omega), if_pos k4, if_pos (by rw [hnn]; exact hz)], Hd.parse_wrong _ _ rfl]; rfl
                  subst hz
                  clear hk3 hkc k5 k4 hnn
                  go_wp2
                  (try simp only [Exit.inBlock, Exit.then])
                  refine bodyPost_ret (Hj.ret3 Tryz.results60 _ _ _ _ rfl (load_rh (MEM6.out.res.put Hd.none))) rfl ?_
                  (try rw [HLE.out])
                  exact rpar_fin HV2.out (by go_num) rfl ((((MEM6.out.bel.setCell hnr _).setCell hnr _).setCell hnr _).setCell hnr _)
                · have hz2 : (nn == 0) = false := by simpa using hz
                  have HST := Lib.hid (HAT.out.step hi HM.out HL.out (by rw [HMLI.out]; exact HG.out) K4.out (by rw [HNN.out]; exact hz) (by omega) HV.out)
                  have HT4 := Lib.hid HAT.out.2.2.2.1
                  obtain ⟨q0, q1, q2, q3⟩ := MEM6.out.head.cells
                  obtain ⟨u0, u1, u2, u3⟩ := MEM6.out.head.fr
                  have hgne := N2.out
                  have hics : i = 0 ∨ i = 1 ∨ i = 2 := by omega
                  rw [HNN.out] at HST
                  clear hk3 hkc k5 k4 hnn hz r0 r1 r2 r3 l0 l1 l2 l3
                  rcases hics with rfl | rfl | rfl
                  · go_wp2
                    go_roundg gk'
                    case measure => omega
                    case rel =>
                      refine ⟨1, a2, t0.num nn, mx, by omega, rfl, rfl, HST.out, ?_⟩
                      have h := MEM6.out.set (MEM6.out.head.put1 nn) N1.out N2.out NW.out
                      unfold Hd.S.num
                      simp only [HT4.out]
                      exact h
                  · go_wp2
                    go_roundg gk'
                    case measure => omega
                    case rel =>
                      refine ⟨2, a2, t0.num nn, mx, by omega, rfl, rfl, HST.out, ?_⟩
                      have h := MEM6.out.set (MEM6.out.head.put2 nn) N1.out N2.out NW.out
                      unfold Hd.S.num
                      simp only [HT4.out]
                      exact h
                  · omega
    | false => exact absurd HBG.out (by decide)
end Go.Proofs.YtkjkepnailamnaaGreat

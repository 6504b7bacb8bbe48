/- A matrix that may be, made of any, by the document. Condition: numbers fit their kinds. -/
import Derived.Test.YtldhhhmihfcalaaRecP
import Derived.Deep.DeepCutAuto
import Derived.Deep.CutRange
namespace Go.Proofs.Ytldhhhmihfcalaa
open Go.RowKit
set_option linter.unusedVariables false

theorem i64_of {n : Int} (h : (Lit.int .i64 n).wf = true) : I64 n := wfI h
theorem around_i {n m : Int} (h : I64 n) (hm : 0 < m) (hm2 : m ≤ 9223372036854775807) (w : World) :
    Calls Try.prog 28 #[.int .i64 n, .int .i64 m] w fun e w' => e = .returned (.int .i64 (Ar.around n m)) ∧ w = w' := aroundOf n m h.1 h.2 hm hm2 w
theorem Pc.lt {w : World} {b : Nat} {t : TypeId} {x y : Int} (h : Pc w b t x y) : b < w.heap.size := (Array.getElem?_eq_some_iff.1 h).1
theorem bel_draw {wr X w9 : World} (hb : Below X.heap.size X w9) (h1 : X.heap = wr.heap) (h2 : X.os = wr.os) (h3 : X.tape = wr.tape) (h4 : X.output = wr.output) : Below wr.heap.size wr w9 :=
  ⟨hb.os.trans h2, hb.tape.trans h3, hb.output.trans h4, by have := hb.size; rw [h1] at this; exact this, fun k hk => by rw [hb.block k (by rw [h1]; exact hk), h1]⟩
theorem size_drewN' (w : World) (n : Nat) : (w.drewN n).heap.size = w.heap.size := rfl
theorem quiet_one {P : Program} {f : FuncId} {args : Array Value} {w : World} {n : Nat} {v : Value} (h : ∀ W : World, Calls P f args W fun e w' => e = .returned v ∧ W = w') :
    Calls P f args (w.drewN n) fun e w'' => e = .returned v ∧ ∃ m, w'' = w.drewN m := (h _).mono fun _ _ ⟨he, hw⟩ => ⟨he, n, hw.symm⟩
/-- the i-th number of a matrix made of others -/
def goodAt (zs : List Int) (i : Nat) : Int := if zs = [] then 0 else zs.getD (i % zs.length) 0 % 3
def goodL (zs : List Int) (n : Nat) : List Int := (List.range n).map (goodAt zs)
def goodW (W most : Int) : Int := 1 + Ar.around W most
theorem goodL_len (zs : List Int) (n : Nat) : (goodL zs n).length = n := by simp [goodL]
theorem goodL_succ (zs : List Int) (n : Nat) : goodL zs (n + 1) = goodL zs n ++ [goodAt zs n] := by simp [goodL, List.range_succ]
theorem goodW_in (W most : Int) (h : 0 < most) : 1 ≤ goodW W most ∧ goodW W most ≤ most := by have := Ar.around_lt W most h; unfold goodW; omega
/-- the matrix -/
def goodM (W H most : Int) (zs : List Int) : List Int := goodL zs ((goodW H most).toNat * (goodW W most).toNat)
theorem good_ok (W H most : Int) (zs : List Int) (h : 0 < most) (h8 : most ≤ 8) : Rc.Ok (goodW W most) (goodW H most) (goodM W H most zs) := by
  obtain ⟨a1, a2⟩ := goodW_in W most h
  obtain ⟨b1, b2⟩ := goodW_in H most h
  refine ⟨a1, by omega, b1, by omega, ?_, goodL_len _ _⟩
  have := Int.mul_le_mul a2 b2 (by omega) (by omega : (0:Int) ≤ most)
  have h64 : most * most ≤ 8 * 8 := Int.mul_le_mul h8 h8 (by omega) (by omega)
  omega
theorem goodAt_lt {zs : List Int} (hz : ∀ n ∈ zs, 0 ≤ n ∧ n ≤ 18446744073709551615) (i : Nat) : 0 ≤ goodAt zs i ∧ goodAt zs i ≤ 2 := by
  unfold goodAt; split <;> omega
theorem ownK_set {q : IntKind} {base : Nat} {w : World} {ad : Option Addr} {zs : List Int} (h : OwnK q base w ad zs) {a : Addr} (ha : a.block < base) (y : Value) : OwnK q base (w.setCell a y) ad zs := by
  rcases h with h | ⟨g, h1, h2, h3, h4, h5⟩
  · exact .inl h
  · refine .inr ⟨g, h1, h2, by simpa using h3, fun i hi => ?_, fun i => ?_⟩
    · rw [World.cell?_setCell_other _ _ _ _ (fun e => by have := congrArg Addr.block e; simp at this; omega)]; exact h4 i hi
    · rw [World.frozen?_setCell]; exact h5 i
set_option maxRecDepth 100000 in
set_option maxHeartbeats 4000000 in
theorem good_any (W H most : Int) (a : Option Addr) (n c : Nat) (zs : List Int) (hW : I64 W) (hH : I64 H) (hm : 0 < most) (hm8 : most ≤ 8) (hn : n ≤ 9223372036854775807) (w : World) (hs : SlK .u64 w a n zs) (hz : ∀ x ∈ zs, 0 ≤ x ∧ x ≤ 18446744073709551615) :
    Calls Try.prog 13 #[.agg #[.int .i64 W, .int .i64 H, .slice a n c], .int .i64 most] w fun e w' =>
      ∃ ad cap, e = .returned (.agg #[.int .i64 (goodW W most), .int .i64 (goodW H most), .slice ad (goodM W H most zs).length cap]) ∧ OwnK .u64 w.heap.size w' ad (goodM W H most zs) ∧ (goodM W H most zs).length ≤ cap ∧ cap ≤ 9223372036854775807 ∧ Below w.heap.size w w' := by
  obtain ⟨x0, x1⟩ := Ar.around_lt W most hm
  obtain ⟨y0, y1⟩ := Ar.around_lt H most hm
  have A1 := Lib.hid (fun W2 => around_i hW hm (by omega) W2)
  have A2 := Lib.hid (fun W2 => around_i hH hm (by omega) W2)
  obtain ⟨p, hp⟩ : ∃ p, Ar.around W most = p := ⟨_, rfl⟩
  obtain ⟨q, hq⟩ : ∃ q, Ar.around H most = q := ⟨_, rfl⟩
  have e1 : goodW W most = 1 + p := by unfold goodW; rw [hp]
  have e2 : goodW H most = 1 + q := by unfold goodW; rw [hq]
  unfold goodM
  rw [hp] at x0 x1 A1
  rw [hq] at y0 y1 A2
  rw [e1, e2, goodL_len]
  obtain ⟨N, hN⟩ : ∃ N, (1 + q).toNat * (1 + p).toNat = N := ⟨_, rfl⟩
  rw [hN]
  have hNp : (1 + p) * (1 + q) = (N : Int) := by rw [← hN, Int.natCast_mul, Int.toNat_of_nonneg (by omega), Int.toNat_of_nonneg (by omega), Int.mul_comm]
  have hN64 : N ≤ 64 := by
    have : (1 + p) * (1 + q) ≤ 8 * 8 := Int.mul_le_mul (by omega) (by omega) (by omega) (by omega)
    omega
  have k1 : wrap64 ((1 + p) * (1 + q)) = (N : Int) := by rw [hNp, IntWalk.wrap64_in] <;> omega
  have HZ := Lib.hid hz
  have hD := Lib.hid (show Sb ((w.alloc (.cells #[.int .i64 W, .int .i64 H, .slice a n c] 24)).alloc (.cells #[.int .i64 0, .int .i64 0, .slice none 0 0] 24)) w.heap.size 24 (.int .i64 W) (.int .i64 H) (.slice a n c) from (Sb.new _ _ _ _ _).alloc _)
  have hE := Lib.hid (show Sb ((w.alloc (.cells #[.int .i64 W, .int .i64 H, .slice a n c] 24)).alloc (.cells #[.int .i64 0, .int .i64 0, .slice none 0 0] 24)) (w.heap.size + 1) 24 (.int .i64 0) (.int .i64 0) (.slice none 0 0) from by simpa using Sb.new (w.alloc (.cells #[.int .i64 W, .int .i64 H, .slice a n c] 24)) 24 (.int .i64 0) (.int .i64 0) (.slice none 0 0))
  have B := Lib.hid (box2 w (.cells #[.int .i64 W, .int .i64 H, .slice a n c] 24) (.cells #[.int .i64 0, .int .i64 0, .slice none 0 0] 24))
  obtain ⟨d0, d1, d2⟩ := hD.out.cells
  clear hz hp hq hN hW hH e1 e2 hNp
  go_enter Try.func13, Try.ntmps13
  obtain ⟨W0, hW0⟩ : ∃ W0, ((w.alloc (.cells #[.int .i64 W, .int .i64 H, .slice a n c] 24)).alloc (.cells #[.int .i64 0, .int .i64 0, .slice none 0 0] 24)) = W0 := ⟨_, rfl⟩
  have hBt := Below.refl W0.heap.size W0
  have wp1 : IntKind.i64.wrap (1 + p) = 1 + p := by rw [IntWalk.i64_in] <;> omega
  have wq1 : IntKind.i64.wrap (1 + q) = 1 + q := by rw [IntWalk.i64_in] <;> omega
  go_wp2
  rw [hW0] at d0 d1 d2
  go_upto_region 1 with fail
  go_cut [5] (fun s5 wx => ∃ b5, s5 = .pointer (some ⟨b5, 0, none⟩) ∧ W0.heap.size ≤ b5 ∧ Sb wx b5 24 (.int .i64 (1 + p)) (.int .i64 (1 + q)) (.slice none 0 0) ∧ Below W0.heap.size W0 wx)
  case first =>
    go_region_held3 (fun w' => w'.cell? ⟨w.heap.size, 0, none⟩ = some (.int .i64 W) ∧ w'.cell? ⟨w.heap.size, 1, none⟩ = some (.int .i64 H))
      (first | exact ⟨d0, d1⟩ | exact ⟨cell_later (by repeat' (first | (with_reducible exact hBt) | (with_reducible refine Below.alloc ?_ ?_ _) | (with_reducible refine Below.drew ?_) | (with_reducible refine below_drewN ?_ _) | (with_reducible refine Below.setCell ?_ ?_ _) | exact hBt.size | (have := hBt.size; first | omega | (simp; done) | (simp; omega)))) d0, cell_later (by repeat' (first | (with_reducible exact hBt) | (with_reducible refine Below.alloc ?_ ?_ _) | (with_reducible refine Below.drew ?_) | (with_reducible refine below_drewN ?_ _) | (with_reducible refine Below.setCell ?_ ?_ _) | exact hBt.size | (have := hBt.size; first | omega | (simp; done) | (simp; omega)))) d1⟩)
      (first
        | (go_at_call 28; (first | (with_reducible refine (A1.out _).mono ?_) | (with_reducible refine (A2.out _).mono ?_)); rintro e w9 ⟨rfl, rfl⟩))
    all_goals
      go_wp2_with fail
      go_meet
      case rel => exact ⟨_, rfl, by simp, (Sb.new _ _ _ _ _).drew, (by repeat' (first | (with_reducible exact hBt) | (with_reducible refine Below.alloc ?_ ?_ _) | (with_reducible refine Below.drew ?_) | (with_reducible refine below_drewN ?_ _) | (with_reducible refine Below.setCell ?_ ?_ _) | exact hBt.size | (have := hBt.size; first | omega | (simp; done) | (simp; omega))))⟩
  case rest =>
    obtain ⟨b5, rfl, hb5, hO, hBx⟩ := hcut
    have h0 : w.heap.size + 2 = W0.heap.size := by rw [← hW0]; simp
    have HW0 := Lib.hid hW0
    rw [hW0] at hD hE B
    have hlt5 := hO.lt
    obtain ⟨i0, hi, hz0, hz1, hz2⟩ := info_parts Try.info_px
    have HBX := Lib.hid hBx
    have HO := Lib.hid hO
    have HS := Lib.hid hs
    clear hBx hO hs hW0 d0 d1 d2 hBt A1 A2
    have hB0 := Lib.hid (bel_step (w := w) B.out HBX.out)
    have hszc : W0.heap.size ≤ wc.heap.size := HBX.out.size
    go_wp2
    go_loopw [6] (fun i wr => ∃ (k : Nat) (v : Value), k ≤ N ∧ i = .int .i64 k ∧ Below W0.heap.size W0 wr ∧ wc.heap.size ≤ wr.heap.size ∧ Sb wr b5 24 (.int .i64 (1 + p)) (.int .i64 (1 + q)) v ∧ wr.ownsRow wc.heap.size 88 1 v k ((goodL zs k).map (Value.int .u64))) (fun i _ => N - (intOf i).toNat)
    case atStart => exact ⟨0, _, Nat.zero_le _, rfl, HBX.out, Nat.le_refl _, HO.out, World.ownsRow_nil _ _ _ _⟩
    case round =>
      obtain ⟨k, v, hk, rfl, hBw, hcs, hOr, hrow⟩ := hrel
      obtain ⟨o0, o1, o2⟩ := hOr.cells
      obtain ⟨f0, f1, f2⟩ := hOr.fr
      obtain ⟨d0, d1, d2⟩ := (hD.out.below hBw (by omega)).cells
      by_cases hlt : k < N
      · have hltI : (k : Int) < (N : Int) := by omega
        have hval : ∃ u : Int, Hid (goodAt zs k = u) := ⟨_, rfl⟩
        obtain ⟨u, HU⟩ := hval
        by_cases hn0 : n = 0
        · have hu0 : u = 0 := by rw [← HU.out]; unfold goodAt; rw [if_pos (List.eq_nil_of_length_eq_zero (by rw [HS.out.1]; exact hn0))]
          subst hn0
          subst hu0
          go_wp2_with (at_builtin; refine wpList_append_own _ rfl _ _ 22 rfl wc.heap.size 88 i0 (.int .u64 0) 1 8 Try.underlying22 hi hz0 hz1 hz2 rfl (by decide) v k _ rfl (World.ownsRow.alloc (w := wr) hrow _) ⟨wr.heap.size, 0, none⟩ 1 1 [.int .u64 (0)] rfl rfl (cell_one_new _ _ _) (by simp [Value.oneCell']) (by unfold maxLen; omega) (by omega) (by simp; omega) ?_; intro v' w1 hown' hgrow' _; obtain ⟨ad', cap', rfl⟩ := ownsRow_val hown'; obtain ⟨j1, j2, j3, j4, j5⟩ := pushL (W := wr) hOr hrow hlt5 hcs hown' hgrow'; obtain ⟨r0, r1, r2⟩ := j1.cells; obtain ⟨r3, r4, r5⟩ := j1.fr)
          go_roundw
          case rel =>
            refine ⟨k + 1, _, by omega, by go_num, hBw.trans (j4 _ hb5), j5, j2, ?_⟩
            rw [goodL_succ, List.map_append, HU.out]
            exact j3
          case measure => simp [intOf]; omega
        · have hn1 : decide ((0 : Int) < (n : Int)) = true := decide_eq_true (by omega)
          have hrem : (k : Int).tmod (n : Int) = ((k % n : Nat) : Int) := by rw [Int.tmod_eq_emod_of_nonneg (by omega)]; rfl
          obtain ⟨b, off, rfl, hcell⟩ := slk_pos HS.out (by omega)
          have hkn : k % n < n := Nat.mod_lt _ (by omega)
          have hcv := cell_later (bel_step (w := w) B.out hBw) (hcell (k % n) hkn)
          obtain ⟨r, hr⟩ : ∃ r, k % n = r := ⟨_, rfl⟩
          obtain ⟨x, hx⟩ : ∃ x, zs.getD (k % n) 0 = x := ⟨_, rfl⟩
          have hxm : x ∈ zs := by rw [← hx, List.getD_eq_getElem?_getD, List.getElem?_eq_getElem (by rw [HS.out.1]; exact hkn)]; exact List.getElem_mem _
          obtain ⟨x0', x1'⟩ := HZ.out x hxm
          have hux : x % 3 = u := by rw [← HU.out]; unfold goodAt; rw [if_neg (fun h => hn0 (by rw [← HS.out.1, h]; rfl)), HS.out.1, hx]
          rw [hx, hr] at hcv
          rw [hr] at hrem hkn
          have hnz : ((n : Int) == 0) = false := by simp; omega
          have hnz2 : ¬ (n : Int) = 0 := by omega
          have HUX := Lib.hid hux
          clear hcell hr hx hxm hux
          go_wp2_with (first | (go_quiet (fail)) | (at_builtin; refine wpList_append_own _ rfl _ _ 22 rfl wc.heap.size 88 i0 (.int .u64 0) 1 8 Try.underlying22 hi hz0 hz1 hz2 rfl (by decide) v k _ rfl (World.ownsRow.alloc (w := wr.drewN nq) hrow _) ⟨wr.heap.size, 0, none⟩ 1 1 [.int .u64 (x % 3)] rfl rfl (cell_one_new _ _ _) (by simp [Value.oneCell']) (by unfold maxLen; omega) (by omega) (by simp; omega) ?_; intro v' w1 hown' hgrow' _; obtain ⟨ad', cap', rfl⟩ := ownsRow_val hown'; obtain ⟨j1, j2, j3, j4, j5⟩ := pushL (W := wr.drewN nq) hOr hrow hlt5 hcs hown' hgrow'; obtain ⟨r0, r1, r2⟩ := j1.cells; obtain ⟨r3, r4, r5⟩ := j1.fr))
          have j4' : ∀ B, B ≤ b5 → Below B wr _ := fun B hB => (bel_drewN (Below.refl B wr) nq).trans (j4 B hB)
          go_roundw
          case rel =>
            refine ⟨k + 1, _, by omega, by go_num, hBw.trans (j4' _ hb5), j5, j2, ?_⟩
            rw [goodL_succ, List.map_append, HU.out, ← HUX.out]
            exact j3
          case measure => simp [intOf]; omega
      · have hltI : ¬ (k : Int) < (N : Int) := by omega
        obtain rfl : k = N := by omega
        have hE1 := hE.out.below hBw (by omega)
        obtain ⟨e0, e1, e2⟩ := hE1.cells
        obtain ⟨y0', y1', y2'⟩ := hE1.fr
        obtain ⟨ad, cap, rfl, hown, hcap⟩ := ownK_row (by simp [goodL_len]) hrow
        have hcap2 : cap ≤ 9223372036854775807 := by
          rcases hrow.2 with ⟨h, _⟩ | ⟨g9, cap9, cur9, h, _, _, _, h9, _⟩
          · cases h; omega
          · cases h; exact h9
        go_wp2
        have R := hE1.put (.int .i64 (1 + p)) (.int .i64 (1 + q)) (.slice ad k cap)
        refine bodyPost_ret (ret_cell1 Try.results13 _ _ _ _ rfl (load_m R)) rfl ?_
        have hBf : Below w.heap.size w (((wr.setCell ⟨w.heap.size + 1, 0, none⟩ (.int .i64 (1 + p))).setCell ⟨w.heap.size + 1, 1, none⟩ (.int .i64 (1 + q))).setCell ⟨w.heap.size + 1, 2, none⟩ (.slice ad k cap)) := (((bel_step (w := w) B.out hBw).setCell (by simp) _).setCell (by simp) _).setCell (by simp) _
        exact ⟨ad, cap, rfl, ((ownK_set (ownK_set (ownK_set hown (by simp; omega) _) (by simp; omega) _) (by simp; omega) _)).mono (by omega), hcap, hcap2, hBf⟩
end Go.Proofs.Ytldhhhmihfcalaa

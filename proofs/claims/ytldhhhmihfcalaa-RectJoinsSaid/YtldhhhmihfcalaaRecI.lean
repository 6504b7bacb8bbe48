/- Whether, and where, a matrix stands in another one, by the program. Condition: both may be. -/
import Derived.Test.YtldhhhmihfcalaaRecH
namespace Go.Proofs.Ytldhhhmihfcalaa
open Go.RowKit
set_option linter.unusedVariables false

theorem ownsRow_val {w : World} {base size n : Nat} {e : TypeId} {v : Value} {xs : List Value} (h : w.ownsRow base e size v n xs) : ∃ ad cap, v = .slice ad n cap := by
  rcases h.2 with ⟨rfl, rfl⟩ | ⟨g, cap, cur, rfl, _⟩
  · exact ⟨_, _, rfl⟩
  · exact ⟨_, _, rfl⟩
set_option maxRecDepth 100000 in
set_option maxHeartbeats 4000000 in
theorem has_any (W H w0 h0 x y : Int) (a a2 : Option Addr) (c c2 : Nat) (L M : List Int) (hL : Rc.Ok W H L) (hM : Rc.Ok w0 h0 M) (hc : L.length ≤ c) (hcm : c ≤ 9223372036854775807) (hd : M.length ≤ c2) (hdm : c2 ≤ 9223372036854775807) (w : World)
    (hs : SlK .u64 w a L.length L) (hs2 : SlK .u64 w a2 M.length M) :
    Calls Try.prog 21 #[.agg #[.int .i64 W, .int .i64 H, .slice a L.length c], .agg #[.int .i64 w0, .int .i64 h0, .slice a2 M.length c2], .int .i64 x, .int .i64 y] w fun e w' => e = .returned (.bool (Rc.hasV W H L w0 h0 M x y)) ∧ Below w.heap.size w w' := by
  obtain ⟨b, off, rfl, hcell⟩ := slk_pos hs (ok_pos hL)
  obtain ⟨b2, off2, rfl, hcell2⟩ := slk_pos hs2 (ok_pos hM)
  have hlen := ok_len hL
  have hlen2 := ok_len hM
  have hM1 := Lib.hid (fun W2 => may_any w0 h0 (some ⟨b2, off2, none⟩) M.length c2 (by omega) W2)
  rw [Rc.ok_may hM] at hM1
  have hC := Lib.hid (fun W2 => covers_any W H (some ⟨b, off, none⟩) L.length c x y w0 h0 (Rc.ok_may hL) W2)
  have B : Below w.heap.size w (((w.alloc (.cells #[.int .i64 W, .int .i64 H, .slice (some ⟨b, off, none⟩) L.length c] 27)).alloc (.cells #[.int .i64 w0, .int .i64 h0, .slice (some ⟨b2, off2, none⟩) M.length c2] 27)).alloc (.cells #[.int .i64 x, .int .i64 y] 101)) := by go_grown
  have D : Mb (((w.alloc (.cells #[.int .i64 W, .int .i64 H, .slice (some ⟨b, off, none⟩) L.length c] 27)).alloc (.cells #[.int .i64 w0, .int .i64 h0, .slice (some ⟨b2, off2, none⟩) M.length c2] 27)).alloc (.cells #[.int .i64 x, .int .i64 y] 101)) w.heap.size W H (some ⟨b, off, none⟩) L.length c := by refine ⟨?_, ?_, ?_⟩ <;> simp [go_sem]
  have E : Mb (((w.alloc (.cells #[.int .i64 W, .int .i64 H, .slice (some ⟨b, off, none⟩) L.length c] 27)).alloc (.cells #[.int .i64 w0, .int .i64 h0, .slice (some ⟨b2, off2, none⟩) M.length c2] 27)).alloc (.cells #[.int .i64 x, .int .i64 y] 101)) (w.heap.size + 1) w0 h0 (some ⟨b2, off2, none⟩) M.length c2 := by refine ⟨?_, ?_, ?_⟩ <;> simp [go_sem]
  have F : Pb (((w.alloc (.cells #[.int .i64 W, .int .i64 H, .slice (some ⟨b, off, none⟩) L.length c] 27)).alloc (.cells #[.int .i64 w0, .int .i64 h0, .slice (some ⟨b2, off2, none⟩) M.length c2] 27)).alloc (.cells #[.int .i64 x, .int .i64 y] 101)) (w.heap.size + 1 + 1) x y := by refine ⟨?_, ?_⟩ <;> simp [go_sem]
  have HD := Lib.hid D
  have HE := Lib.hid E
  have HF := Lib.hid F
  have HCL := Lib.hid hcell
  have HCL2 := Lib.hid hcell2
  have HL := Lib.hid hL
  have HM := Lib.hid hM
  clear D E F hs hs2 hcell hcell2
  cases k1 : (Rc.insV x w0 W && Rc.insV y h0 H)
  · have X := Lib.hid (show Rc.hasV W H L w0 h0 M x y = false by unfold Rc.hasV; rw [k1]; rfl)
    clear hL hM
    go_enter Try.func21, Try.ntmps21
    go_wp2_with (first
      | (go_at_call 57; refine (hM1.out _).mono ?_; rintro e w1 ⟨rfl, hb⟩; have D1 := HD.out.later hb; have E1 := HE.out.later hb; have F1 := HF.out.later hb; replace B := bel_step B hb; have HD1 := Lib.hid D1; have HE1 := Lib.hid E1; have HF1 := Lib.hid F1; obtain ⟨d0, d1, d2⟩ := D1; obtain ⟨e0, e1, e2⟩ := E1; obtain ⟨f0, f1⟩ := F1)
      | (go_at_call 62; refine (hC.out _).mono ?_; rw [k1]; rintro e w2 ⟨rfl, hb2⟩; replace B := bel_step B hb2))
    go_ret
    exact ⟨ret_b X.out.symm, B⟩
  · obtain ⟨kx, ky⟩ : Rc.insV x w0 W = true ∧ Rc.insV y h0 H = true := by simpa using k1
    obtain ⟨a1, a2, a3, a4⟩ := Rc.insV_iff.1 kx
    obtain ⟨b1, b2', b3, b4⟩ := Rc.insV_iff.1 ky
    have hW := hL.2.1
    have hH := hL.2.2.2.1
    have hF1 : Rc.searchV L W w0 h0 M x y 1 1 = if Rc.eqAt L W w0 h0 M x y = true then [(x, y)] else [] := by simp [Rc.searchV]
    have hX : Rc.hasV W H L w0 h0 M x y = Rc.eqAt L W w0 h0 M x y := by rw [Rc.eqAt_eq hL.2.2.2.2.2 hM.2.2.2.2.2 hM.1 kx ky, Rc.hasV, k1]; rfl
    have hX1 : ∀ i : Nat, i < 1 → Rc.insV (x + (i : Int)) w0 W = true := fun i hi => by
      obtain rfl : i = 0 := by omega
      simpa using kx
    have hY1 : ∀ j : Nat, j < 1 → Rc.insV (y + (j : Int)) h0 H = true := fun j hj => by
      obtain rfl : j = 0 := by omega
      simpa using ky
    have hSe := Lib.hid (fun W2 h1 h2 => search_any W H w0 h0 x y x y b off c b2 off2 c2 1 1 L M HL.out HM.out hc hcm hd hdm ⟨a1, by omega⟩ ⟨b1, by omega⟩ (.inl (by omega)) (.inl (by omega)) hX1 hY1 W2 h1 h2)
    have hlq : (((Rc.searchV L W w0 h0 M x y 1 1).length : Int) > 0) = (Rc.eqAt L W w0 h0 M x y = true) := by rw [hF1]; split <;> simp_all
    obtain ⟨G, hG⟩ : ∃ G, Rc.searchV L W w0 h0 M x y 1 1 = G := ⟨_, rfl⟩
    rw [hG] at hSe hlq
    have X := Lib.hid (show decide (0 < G.length) = Rc.hasV W H L w0 h0 M x y by rw [hX]; cases h : Rc.eqAt L W w0 h0 M x y <;> simp_all)
    clear hL hM kx ky hF1 hX hlq hG hX1 hY1
    go_enter Try.func21, Try.ntmps21
    go_wp2_with (first
      | (go_at_call 57; refine (hM1.out _).mono ?_; rintro e w1 ⟨rfl, hb⟩; have D1 := HD.out.later hb; have E1 := HE.out.later hb; have F1 := HF.out.later hb; replace B := bel_step B hb; have HD1 := Lib.hid D1; have HE1 := Lib.hid E1; have HF1 := Lib.hid F1; obtain ⟨d0, d1, d2⟩ := D1; obtain ⟨e0, e1, e2⟩ := E1; obtain ⟨f0, f1⟩ := F1)
      | (go_at_call 62; refine (hC.out _).mono ?_; rw [k1]; rintro e w2 ⟨rfl, hb2⟩; replace B := bel_step B hb2; obtain ⟨g0, g1, g2⟩ := HD1.out.later hb2; obtain ⟨h00, h01, h02⟩ := HE1.out.later hb2; obtain ⟨i0, i1⟩ := HF1.out.later hb2; clear d0 d1 d2 e0 e1 e2 f0 f1)
      | (go_at_call 63; refine (hSe.out _ (fun i hi => cell_later B (HCL.out i hi)) (fun i hi => cell_later B (HCL2.out i hi))).mono ?_; rintro e w3 ⟨v3, rfl, ho, hb3⟩; obtain ⟨ad3, cap3, rfl⟩ := ownsRow_val ho; clear ho; replace B := bel_step B hb3))
    go_ret
    exact ⟨ret_b X.out, B⟩
set_option maxRecDepth 100000 in
set_option maxHeartbeats 4000000 in
theorem find_any (W H w0 h0 : Int) (a a2 : Option Addr) (c c2 : Nat) (L M : List Int) (hL : Rc.Ok W H L) (hM : Rc.Ok w0 h0 M) (hc : L.length ≤ c) (hcm : c ≤ 9223372036854775807) (hd : M.length ≤ c2) (hdm : c2 ≤ 9223372036854775807) (w : World)
    (hs : SlK .u64 w a L.length L) (hs2 : SlK .u64 w a2 M.length M) :
    Calls Try.prog 66 #[.agg #[.int .i64 W, .int .i64 H, .slice a L.length c], .agg #[.int .i64 w0, .int .i64 h0, .slice a2 M.length c2]] w fun e w' =>
      ∃ v, e = .returned v ∧ w'.ownsRow w.heap.size 101 2 v (Rc.findV W H L w0 h0 M).length (pairs (Rc.findV W H L w0 h0 M)) ∧ Below w.heap.size w w' := by
  obtain ⟨b, off, rfl, hcell⟩ := slk_pos hs (ok_pos hL)
  obtain ⟨b2, off2, rfl, hcell2⟩ := slk_pos hs2 (ok_pos hM)
  have hlen := ok_len hL
  have hlen2 := ok_len hM
  obtain ⟨a1, a2, a3, a4⟩ : 1 ≤ W ∧ W ≤ 4096 ∧ 1 ≤ H ∧ H ≤ 65536 := ⟨hL.1, hL.2.1, hL.2.2.1, hL.2.2.2.1⟩
  obtain ⟨b1, b2', b3, b4⟩ : 1 ≤ w0 ∧ w0 ≤ 4096 ∧ 1 ≤ h0 ∧ h0 ≤ 65536 := ⟨hM.1, hM.2.1, hM.2.2.1, hM.2.2.2.1⟩
  rw [Rc.find_eq hL hM]
  have hM0 := Lib.hid (fun W2 => may_any W H (some ⟨b, off, none⟩) L.length c (by omega) W2)
  have hM1 := Lib.hid (fun W2 => may_any w0 h0 (some ⟨b2, off2, none⟩) M.length c2 (by omega) W2)
  rw [Rc.ok_may hM] at hM1
  rw [Rc.ok_may hL] at hM0
  have B := box2 w (.cells #[.int .i64 W, .int .i64 H, .slice (some ⟨b, off, none⟩) L.length c] 27) (.cells #[.int .i64 w0, .int .i64 h0, .slice (some ⟨b2, off2, none⟩) M.length c2] 27)
  have D : Mb ((w.alloc (.cells #[.int .i64 W, .int .i64 H, .slice (some ⟨b, off, none⟩) L.length c] 27)).alloc (.cells #[.int .i64 w0, .int .i64 h0, .slice (some ⟨b2, off2, none⟩) M.length c2] 27)) w.heap.size W H (some ⟨b, off, none⟩) L.length c := by refine ⟨?_, ?_, ?_⟩ <;> simp [go_sem]
  have E : Mb ((w.alloc (.cells #[.int .i64 W, .int .i64 H, .slice (some ⟨b, off, none⟩) L.length c] 27)).alloc (.cells #[.int .i64 w0, .int .i64 h0, .slice (some ⟨b2, off2, none⟩) M.length c2] 27)) (w.heap.size + 1) w0 h0 (some ⟨b2, off2, none⟩) M.length c2 := by refine ⟨?_, ?_, ?_⟩ <;> simp [go_sem]
  have HD := Lib.hid D
  have HE := Lib.hid E
  have HCL := Lib.hid hcell
  have HCL2 := Lib.hid hcell2
  have hSe := Lib.hid (fun W2 h1 h2 => search_any W H w0 h0 0 0 (W - w0) (H - h0) b off c b2 off2 c2 (W - w0 + 1).toNat (H - h0 + 1).toNat L M hL hM hc hcm hd hdm ⟨by omega, by omega⟩ ⟨by omega, by omega⟩ (by omega) (by omega) (fun i hi => by rw [Rc.insV_iff]; omega) (fun j hj => by rw [Rc.insV_iff]; omega) W2 h1 h2)
  obtain ⟨G, hG⟩ : ∃ G, Rc.searchV L W w0 h0 M 0 0 (W - w0 + 1).toNat (H - h0 + 1).toNat = G := ⟨_, rfl⟩
  rw [hG] at hSe ⊢
  obtain ⟨p, hp⟩ : ∃ p, W - w0 = p := ⟨_, rfl⟩
  obtain ⟨q, hq⟩ : ∃ q, H - h0 = q := ⟨_, rfl⟩
  rw [hp] at hSe
  rw [hq] at hSe
  have e1 : wrap64 (W - w0) = p := by rw [hp, IntWalk.wrap64_in] <;> omega
  have e2 : wrap64 (H - h0) = q := by rw [hq, IntWalk.wrap64_in] <;> omega
  clear D E hs hs2 hcell hcell2 hL hM hG hp hq a1 a2 a3 a4 b1 b2' b3 b4
  go_enter Try.func66, Try.ntmps66
  go_wp2_with (first
    | (go_at_call 57; first
      | ((with_reducible refine (hM0.out _).mono ?_); rintro e w1 ⟨rfl, hb⟩; have D1 := HD.out.later hb; have E1 := HE.out.later hb; replace B := bel_step B hb; have HD1 := Lib.hid D1; have HE1 := Lib.hid E1; obtain ⟨d0, d1, d2⟩ := D1; obtain ⟨e0, e1', e2'⟩ := E1)
      | ((with_reducible refine (hM1.out _).mono ?_); rintro e w2 ⟨rfl, hb2⟩; replace B := bel_step B hb2; obtain ⟨g0, g1, g2⟩ := HD1.out.later hb2; obtain ⟨h00, h01, h02⟩ := HE1.out.later hb2; clear d0 d1 d2 e0 e1' e2'))
    | (go_at_call 63; refine (hSe.out _ (fun i hi => cell_later B (HCL.out i hi)) (fun i hi => cell_later B (HCL2.out i hi))).mono ?_; rintro e w3 ⟨v3, rfl, ho, hb3⟩; have O3 := Lib.hid (ownsRow_base ho B.size); clear ho; replace B := bel_step B hb3))
  go_ret
  exact ⟨_, rfl, O3.out, B⟩
end Go.Proofs.Ytldhhhmihfcalaa

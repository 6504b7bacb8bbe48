/- BitsJoins: rows of whole bytes, one behind the other, are one row: the walk of the law. No condition. -/
import Derived.Test.YtjjpnipcpnkakaaBtT
namespace Go.Proofs.Ytjjpnipcpnkakaa
open Go.RowKit Go.Shelf
set_option linter.unusedVariables false
set_option maxRecDepth 100000 in
set_option maxHeartbeats 8000000 in
theorem bitsJoins_walk (a0 : Option Addr) (len0 cap0 : Nat) (z0 : List Int) (a1 : Option Addr) (len1 cap1 : Nat) (z1 : List Int) (w : World) (w0 : IsRow .i64 w a0 len0 cap0 z0) (w1 : IsRow .i64 w a1 len1 cap1 z1) :
    Calls Try.prog 12 #[.slice a0 len0 cap0, .slice a1 len1 cap1] w fun e w' => e = .returned (.bool true) ∧ Below w.heap.size w w' := by
  obtain ⟨HA, -⟩ := Bt.ls_in w0 len0 (Nat.le_refl _)
  obtain ⟨HB, -⟩ := Bt.ls_in w1 len1 (Nat.le_refl _)
  have HA := Lib.hid HA
  have HB := Lib.hid HB
  generalize z0.take len0 = la at HA
  generalize z1.take len1 = lb at HB
  obtain ⟨u, hu⟩ : ∃ u, Bt.onesV la 32 = u := ⟨_, rfl⟩
  obtain ⟨y, hy⟩ : ∃ y, Bt.onesV lb 20 = y := ⟨_, rfl⟩
  have ou : Bt.Ones u := by rw [← hu]; exact Bt.onesV_01 _ _
  have oy : Bt.Ones y := by rw [← hy]; exact Bt.onesV_01 _ _
  have lu : u.length ≤ 32 := by rw [← hu, Bt.onesV_len]; omega
  have ly : y.length ≤ 20 := by rw [← hy, Bt.onesV_len]; omega
  obtain ⟨p, hp⟩ : ∃ p, u.length = p := ⟨_, rfl⟩
  obtain ⟨q, hq⟩ : ∃ q, y.length = q := ⟨_, rfl⟩
  rw [hp] at lu
  rw [hq] at ly
  obtain ⟨k, hk⟩ : ∃ k, p / 8 * 8 = k := ⟨_, rfl⟩
  have hkp : k ≤ p := by omega
  have hk8 : k % 8 = 0 := by omega
  have HK : Hid ((p : Int) / 8 * 8 = k) := Lib.hid (by omega)
  have HU := Lib.hid hu
  have HY := Lib.hid hy
  have HP := Lib.hid hp
  have HQ := Lib.hid hq
  have OX := Lib.hid (show Bt.Ones (u.take k) from fun x hx => ou x (List.mem_of_mem_take hx))
  have OY := Lib.hid oy
  have LX := Lib.hid (show (u.take k).length = k by rw [List.length_take]; omega)
  clear hu hy hp hq ou oy w0 w1 hk
  obtain ⟨x, hx⟩ : ∃ x, u.take k = x := ⟨_, rfl⟩
  rw [hx] at OX LX
  have HX := Lib.hid hx
  clear hx
  go_enter Try.func12, Try.ntmps12
  go_wp2_with fail
  refine (Bt.ones_t a0 len0 cap0 32 la _ HA.out (by omega) u p HU.out HP.out).mono ?_
  rintro e w1 ⟨ad1, c1, rfl, L1, B1⟩
  have L1 := Lib.hid L1; have B1 := Lib.hid B1
  have hkd := HK.out
  have hc1 := L1.out.2
  obtain ⟨hc1, hc1'⟩ := hc1
  go_wp2_with fail
  refine (Bt.ones_t a1 len1 cap1 20 lb _ (HB.out.later B1.out) (by omega) y q HY.out HQ.out).mono ?_
  rintro e w2 ⟨ad2, c2, rfl, L2, B2⟩
  have HLX := Lib.hid (show Bt.Ls .i64 w2 ad1 k c1 x by rw [← HX.out]; exact (L1.out.later B2).cut k hkp)
  have HB2 := Lib.hid (bel_step B1.out B2)
  have HLY := Lib.hid L2
  clear L2 B2 L1 B1
  by_cases hk0 : k = 0
  · have hkb : ((k : Int) == 0) = true := by simp; omega
    clear hk0
    go_wp2_with (go_at_call 53; refine (Bt.lives7_any _).mono ?_; rintro e w4 ⟨rfl, hb4⟩)
    go_ret
    exact ⟨rfl, bel_step HB2.out hb4⟩
  · have hkb : ((k : Int) == 0) = false := by simp; omega
    by_cases hq0 : q = 0
    · have hqb : ((q : Int) == 0) = true := by simp; omega
      clear hk0 hq0
      go_wp2_with (go_at_call 53; refine (Bt.lives7_any _).mono ?_; rintro e w4 ⟨rfl, hb4⟩)
      go_ret
      exact ⟨rfl, bel_step HB2.out hb4⟩
    · have hqb : ((q : Int) == 0) = false := by simp; omega
      have k1 : 1 ≤ k := by omega
      have q1 : 1 ≤ q := by omega
      clear hk0 hq0
      have lX := LX.out
      have lY := HQ.out
      obtain ⟨-, x1, x2, -, x3, -⟩ := Bt.pack_back OX.out (by omega) (by omega)
      obtain ⟨-, y1, y2, -, y3, -⟩ := Bt.pack_back OY.out (by omega) (by omega)
      have oz : Bt.Ones (x ++ y) := fun z hz => by
        rcases List.mem_append.1 hz with hz | hz
        · exact OX.out z hz
        · exact OY.out z hz
      have lz : (x ++ y).length = k + q := by rw [List.length_append, lX, lY]
      obtain ⟨-, z1, z2, -, z3, -⟩ := Bt.pack_back oz (by omega) (by omega)
      rw [Bt.pack_join (by rw [lX]; exact hk8)] at z1 z3
      obtain ⟨m1, hm1, m1a, m1b⟩ := Bt.bytesV_len (n := k) (by omega) (by omega)
      obtain ⟨m2, hm2, m2a, m2b⟩ := Bt.bytesV_len (n := q) (by omega) (by omega)
      have px := Bt.packB_len m1 x (by omega) (by omega)
      have py := Bt.packB_len m2 y (by omega) (by omega)
      obtain ⟨PA, hPA⟩ : ∃ PA, Bt.packB x = PA := ⟨_, rfl⟩
      obtain ⟨PB, hPB⟩ : ∃ PB, Bt.packB y = PB := ⟨_, rfl⟩
      rw [hPA] at x1 x3 px z1 z3
      rw [hPB] at y1 y3 py z1 z3
      have m1c : m1 ≤ 4 := by omega
      have m2c : m2 ≤ 3 := by omega
      have X1 := Lib.hid x1; have X2 := Lib.hid x2; have Y1 := Lib.hid y1; have Y2 := Lib.hid y2; have Z1 := Lib.hid z1; have Z2 := Lib.hid z2
      have PX := Lib.hid px; have PY := Lib.hid py
      have SX : Hid (Bt.sumV (Bt.unpackV PA k) = Bt.sumV x) := Lib.hid (by rw [← lX, x3])
      have SY : Hid (Bt.sumV (Bt.unpackV PB q) = Bt.sumV y) := Lib.hid (by rw [← lY, y3])
      have SZ : Hid (Bt.sumV (Bt.unpackV (PA ++ PB) ((k : Int) + q)) = Bt.sumV x + Bt.sumV y) := Lib.hid (by rw [← Bt.sumV_append, show (k : Int) + q = ((x ++ y).length : Int) by rw [lz]; omega, z3])
      have bx := Bt.sumV_le x OX.out
      have by' := Bt.sumV_le y OY.out
      rw [lX] at bx
      rw [lY] at by'
      obtain ⟨sx, hsx⟩ : ∃ sx, Bt.sumV x = sx := ⟨_, rfl⟩
      obtain ⟨sy, hsy⟩ : ∃ sy, Bt.sumV y = sy := ⟨_, rfl⟩
      rw [hsx] at bx SX SZ
      rw [hsy] at by' SY SZ
      obtain ⟨bx0, bx1⟩ := bx
      obtain ⟨by0, by1⟩ := by'
      obtain ⟨i0, hi, hz0, hz1, hz2⟩ := info_parts Bt.Try.info_int
      obtain ⟨ba, oa, had1, hnx⟩ := HLX.out.news k1
      obtain ⟨bb, ob, had2, hny⟩ := HLY.out.news q1
      subst had1 had2
      have HNX := Lib.hid hnx; have HNY := Lib.hid hny
      have OZ := Lib.hid oz
      have LZ := Lib.hid lz
      clear x1 x2 x3 y1 y2 y3 z1 z2 z3 px py hPA hPB hsx hsy hnx hny oz lz lX lY hm1 hm2 m1a m1b m2a m2b
      obtain ⟨sA, hsA⟩ : ∃ sA, strOfNums PA = sA := ⟨_, rfl⟩
      obtain ⟨sB, hsB⟩ : ∃ sB, strOfNums PB = sB := ⟨_, rfl⟩
      have zA : sA.size ≤ 4 := by rw [← hsA, Bt.str_size, PX.out]; exact m1c
      have zB : sB.size ≤ 3 := by rw [← hsB, Bt.str_size, PY.out]; exact m2c
      have SA := Lib.hid hsA; have SB := Lib.hid hsB
      have SC : Hid (strOfNums (PA ++ PB) = sA ++ sB) := Lib.hid (by rw [Cv.str_append, hsA, hsB])
      clear hsA hsB
      go_wp2_with fail
      refine (Bt.pack_t _ _ _ x _ HLX.out 0 PA m1 X2.out X1.out PX.out).mono ?_
      rintro e w3 ⟨ad3, c3, rfl, L3, B3⟩
      have HB3 := Lib.hid (bel_step HB2.out B3)
      have HB23 := Lib.hid B3
      have HL3 := Lib.hid L3
      have HLY3 := Lib.hid (HLY.out.later B3)
      clear L3 B3
      go_wp2_with fail
      refine (Bt.pack_t _ _ _ y _ HLY3.out 0 PB m2 Y2.out Y1.out PY.out).mono ?_
      rintro e w4 ⟨ad4, c4, rfl, L4, B4⟩
      have HB4 := Lib.hid (bel_step HB3.out B4)
      have HB24 := Lib.hid (bel_step HB23.out B4)
      have HL4 := Lib.hid L4
      have HL3b := Lib.hid (HL3.out.later B4)
      have hw4 := HB4.out.size
      clear L4 B4
      go_wp2_with (first
        | (at_builtin; refine wpList_append_own _ rfl _ _ 74 rfl w4.heap.size 3 i0 (.int .i64 0) 1 8 Try.underlying74 hi hz0 hz1 hz2 rfl (by decide) _ 0 [] rfl (World.ownsRow_nil _ _ _ _) ⟨ba, oa, none⟩ k c1 (x.map (Value.int .i64)) rfl (by rw [List.length_map, LX.out, Nat.mul_one]) (HNX.out _ HB24.out) (ints_oneCell _ _) (by unfold maxLen; omega) (by omega) (Nat.le_refl _) ?_; intro v5 w5 hown5 hgrow5 _; rw [Nat.zero_add, List.nil_append] at hown5; obtain ⟨g5, c5, rfl⟩ := Bt.owns_pos k1 hown5; have HO5 := Lib.hid hown5; have HB5 := Lib.hid ((Below.refl w4.heap.size w4).grown hgrow5 (Nat.le_refl _) (by intro j ej; cases ej)); have hs5 := HB5.out.size; clear hown5 hgrow5)
        | (at_builtin; refine wpList_append_own _ rfl _ _ 74 rfl w4.heap.size 3 i0 (.int .i64 0) 1 8 Try.underlying74 hi hz0 hz1 hz2 rfl (by decide) _ k (x.map (Value.int .i64)) rfl HO5.out ⟨bb, ob, none⟩ q c2 (y.map (Value.int .i64)) rfl (by rw [List.length_map, HQ.out, Nat.mul_one]) (HNY.out _ (bel_step HB24.out HB5.out)) (ints_oneCell _ _) (by unfold maxLen; omega) (by omega) hs5 ?_; intro v6 w6 hown6 hgrow6 _; rw [← List.map_append] at hown6; obtain ⟨g6, c6, rfl⟩ := Bt.owns_pos (by omega) hown6; have HO6 := Lib.hid (Bt.ls_of (q := .i64) LZ.out hown6); have HB6 := Lib.hid (HB5.out.grown hgrow6 hs5 (fun j ej => (HO5.out.lt j ej).1)); clear hown6 hgrow6)
        | (go_at_call 55; refine (Bt.pack_t _ _ _ (x ++ y) _ HO6.out 0 (PA ++ PB) (m1 + m2) Z2.out Z1.out (by rw [List.length_append, PX.out, PY.out])).mono ?_; rintro e w7 ⟨ad7, c7, rfl, L7, B7⟩; have HB7 := Lib.hid (bel_step HB6.out B7); have HBs := Lib.hid (Bt.bs_of (by rw [Z1.out]; exact L7 : Bt.Ls .u8 w7 ad7 (m1 + m2) c7 (Bt.packV (x ++ y)))); have C7 := Cv.conv_slk (cap := c7) L7.1; have C3 := Cv.conv_slk (cap := c3) (HL3b.out.1.below HB7.out); have C4 := Cv.conv_slk (cap := c4) (HL4.out.1.below HB7.out); rw [SC.out] at C7; rw [SA.out] at C3; rw [SB.out] at C4; clear L7 B7))
      have hbz := HBs.out
      rw [Z1.out] at hbz
      have hbx := Bt.bs_of (show Bt.Ls .u8 w4 ad3 m1 c3 (Bt.packV x) by rw [X1.out]; exact HL3b.out)
      rw [X1.out] at hbx
      have hby := Bt.bs_of (show Bt.Ls .u8 w4 ad4 m2 c4 (Bt.packV y) by rw [Y1.out]; exact HL4.out)
      rw [Y1.out] at hby
      have hb4 := bel_step HB4.out HB7.out
      refine (Bt.count_t _ _ _ (PA ++ PB) _ _ hbz (sx + sy) SZ.out).mono ?_
      rintro e w8 ⟨rfl, b8⟩
      have KX := Lib.hid ((hbx.below HB7.out).below b8)
      have KY := Lib.hid ((hby.below HB7.out).below b8)
      have HB8 := Lib.hid (bel_step hb4 b8)
      clear hbz hbx hby hb4 b8
      go_wp2_with fail
      refine (Bt.count_t _ _ _ PA _ _ KX.out sx SX.out).mono ?_
      rintro e w9 ⟨rfl, b9⟩
      have KY9 := Lib.hid (KY.out.below b9)
      have HB9 := Lib.hid (bel_step HB8.out b9)
      clear b9
      go_wp2_with fail
      refine (Bt.count_t _ _ _ PB _ _ KY9.out sy SY.out).mono ?_
      rintro e wa ⟨rfl, ba9⟩
      have HBa := Lib.hid (bel_step HB9.out ba9)
      clear ba9
      go_wp2_with (go_at_call 53; refine (Bt.lives7_any _).mono ?_; rintro e wb ⟨rfl, hbb⟩)
      go_ret
      exact ⟨rfl, bel_step HBa.out hbb⟩
end Go.Proofs.Ytjjpnipcpnkakaa

/- BitsUnpacks: a row's pixels, its spare bits, and how many are 1, are the document's, or refused: the walk of the law. No condition. -/
import Derived.Test.YtjjpnipcpnkakaaBtT
import Derived.Deep.LoopGhost
import Derived.Deep.RegionHeld3
import Derived.Lib.SmallJoins
namespace Go.Proofs.Ytjjpnipcpnkakaa
open Go.RowKit Go.Shelf
set_option linter.unusedVariables false
namespace Bt
/-- What the law's last question is asked over. -/
structure UnS (a0 : Option Addr) (m cap0 : Nat) (zs : List Int) (ad3 : Option Addr) (n c3 : Nat) (ad4 : Option Addr) (c4 : Nat) (xs : List Int) (base : Nat) (w0 w : World) : Prop where
  bs : Bs w a0 m cap0 zs
  l3 : Ls .i64 w ad3 n c3 xs
  l4 : Ls .i64 w ad4 n c4 xs
  bel : Below base w0 w
variable {a0 : Option Addr} {m cap0 : Nat} {zs : List Int} {ad3 : Option Addr} {n c3 : Nat} {ad4 : Option Addr} {c4 : Nat} {xs : List Int} {w0 w : World}
theorem UnS.later {w' : World} (h : UnS a0 m cap0 zs ad3 n c3 ad4 c4 xs w0.heap.size w0 w) (hb : Below w.heap.size w w') : UnS a0 m cap0 zs ad3 n c3 ad4 c4 xs w0.heap.size w0 w' := ⟨h.bs.below hb, h.l3.later hb, h.l4.later hb, bel_step h.bel hb⟩
theorem same_un (h : UnS a0 m cap0 zs ad3 n c3 ad4 c4 xs w0.heap.size w0 w) (hn : n ≤ 9223372036854775807) :
    Calls Try.prog 47 #[.slice ad3 n c3, .slice ad4 n c4] w fun e w' => e = .returned (.bool true) ∧ Below w.heap.size w w' := Sm.same_self _ _ _ _ _ _ xs _ hn h.l3.1 h.l4.1
theorem count_un (h : UnS a0 m cap0 zs ad3 n c3 ad4 c4 xs w0.heap.size w0 w) (V s : Int) (hs : sumV (unpackV zs V) = s) :
    Calls Try.prog 50 #[.slice a0 m cap0, .int .i64 V] w fun e w' => e = .returned (.int .i64 s) ∧ Below w.heap.size w w' := count_t _ _ _ zs V _ h.bs s hs
theorem spare_un (h : UnS a0 m cap0 zs ad3 n c3 ad4 c4 xs w0.heap.size w0 w) (V s : Int) (hs : spareV zs V = s) :
    Calls Try.prog 51 #[.slice a0 m cap0, .int .i64 V] w fun e w' => e = .returned (.int .i64 s) ∧ Below w.heap.size w w' := by
  rw [← hs]; exact spare_any _ _ _ zs V _ h.bs
theorem refSpare_un (h : UnS a0 m cap0 zs ad3 n c3 ad4 c4 xs w0.heap.size w0 w) (V s : Int) (hs : spareV zs V = s) :
    Calls Try.prog 52 #[.slice a0 m cap0, .int .i64 V] w fun e w' => e = .returned (.int .i64 s) ∧ Below w.heap.size w w' := by
  rw [← hs]; exact refSpare_any _ _ _ zs V _ h.bs
end Bt
set_option maxRecDepth 100000 in
set_option maxHeartbeats 16000000 in
theorem bitsUnpacks_walk (a0 : Option Addr) (len0 cap0 : Nat) (z0 : List Int) (a1 : Int) (w : World) (w0 : IsRow .u8 w a0 len0 cap0 z0) (w1 : (Lit.int .i64 a1).wf = true) :
    Calls Try.prog 7 #[.slice a0 len0 cap0, .int .i64 a1] w fun e w' => e = .returned (.bool true) ∧ Below w.heap.size w w' := by
  have h1 := Lib.hid (wfI w1)
  obtain ⟨l1, l2, l3, l4⟩ := isrow_len w0
  obtain ⟨m, hmm⟩ : ∃ m, ((len0 ≤ 12 ∧ m = len0) ∨ (12 < len0 ∧ m = 12)) := ⟨min len0 12, by omega⟩
  have hm1 : m ≤ len0 := by omega
  have hm12 : m ≤ 12 := by omega
  have HS := Lib.hid (Bt.bs_in w0 m hm1)
  generalize z0.take m = zs at HS
  obtain ⟨ar0, ar1⟩ := Ar.around_lt a1 101 (by omega)
  obtain ⟨ar, har⟩ : ∃ k, Hid (Ar.around a1 101 = k) := ⟨_, rfl⟩
  rw [har.out] at ar0 ar1
  clear w0 w1 l2 hm1
  rcases hmm with ⟨h, rfl⟩ | ⟨h, rfl⟩
  · have kd : min (m : Int) 12 = m := by omega
    clear h
    go_enter Try.func7, Try.ntmps7
    go_wp2_with (go_at_call 36; refine (aroundOf a1 101 h1.out.1 h1.out.2 (by omega) (by omega) _).mono ?_; rw [har.out]; rintro e w1 ⟨rfl, rfl⟩)
    obtain ⟨W2, hW2⟩ : ∃ W2, w.alloc (.cells #[.int .i64 a1, .int .i64 ar] 3) = W2 := ⟨_, rfl⟩
    have hcl : ∀ k, k < 2 → ∃ V : Int, -9223372036854775808 ≤ V ∧ V ≤ 9223372036854775807 ∧ W2.cell? ⟨w.heap.size, k, none⟩ = some (.int .i64 V) := fun k hk => by
      rw [← hW2]
      obtain rfl | rfl : k = 0 ∨ k = 1 := by omega
      · exact ⟨a1, h1.out.1, h1.out.2, by simp [go_sem]⟩
      · exact ⟨ar, by omega, by omega, by simp [go_sem]⟩
    have HCL := Lib.hid hcl
    have hb0 : Below w.heap.size w W2 := by rw [← hW2]; exact (Below.refl _ w).alloc (Nat.le_refl _) _
    have HB0 := Lib.hid hb0
    have HS2 := Lib.hid (HS.out.below hb0)
    have hs2 : w.heap.size < W2.heap.size := by rw [← hW2]; simp
    rw [hW2]
    clear hcl hb0 hW2 h1
    go_loopg [6] 2 (fun g s6 wr => ∃ k : Nat, k + g = 2 ∧ s6 = .int .i64 k ∧ Below W2.heap.size W2 wr)
    case atStart => exact ⟨0, rfl, rfl, Below.refl _ _⟩
    case round =>
      obtain ⟨k, hk, rfl, hB⟩ := hrel
      have k0 : (0 : Int) ≤ k := Int.natCast_nonneg _
      have HB := Lib.hid hB
      clear hB
      cases gk with
      | zero =>
        obtain rfl : k = 2 := by omega
        rw [show ((2 : Nat) : Int) = 2 from rfl]
        go_wp2_with (go_at_call 53; refine (Bt.lives7_any _).mono ?_; rintro e wb ⟨rfl, hbb⟩)
        go_ret
        exact ⟨rfl, bel_step (bel_step HB0.out HB.out) hbb⟩
      | succ g =>
        have hk2 : (k : Int) < 2 := by omega
        obtain ⟨V, V0, V1, hcV⟩ := HCL.out k (by omega)
        have hcv := cell_later HB.out hcV
        clear hcV
        obtain ⟨xs, hxs⟩ : ∃ xs, Bt.unpackV zs V = xs := ⟨_, rfl⟩
        have oX : Bt.Ones xs := by rw [← hxs]; exact Bt.unpackV_01 _ _
        obtain ⟨er, her⟩ : ∃ er, Bt.rowE m V = er := ⟨_, rfl⟩
        obtain ⟨n, hn⟩ : ∃ n, xs.length = n := ⟨_, rfl⟩
        obtain ⟨sx, hsx⟩ : ∃ sx, Bt.sumV xs = sx := ⟨_, rfl⟩
        obtain ⟨by', hby⟩ : ∃ q, Bt.bytesV V = q := ⟨_, rfl⟩
        obtain ⟨sp, hsp⟩ : ∃ q, Bt.spareV zs V = q := ⟨_, rfl⟩
        have HXS := Lib.hid hxs; have OX := Lib.hid oX; have HE := Lib.hid her; have HN := Lib.hid hn; have HSX := Lib.hid hsx; have HBY := Lib.hid hby; have HSP := Lib.hid hsp
        have HSU := Lib.hid (show Bt.sumV (Bt.unpackV zs V) = sx by rw [hxs]; exact hsx)
        clear hxs oX her hn hsx hby hsp
        go_wp2_with fail
        refine (Bt.unpack_t _ _ _ zs V _ (HS2.out.below HB.out) er xs n HE.out HXS.out HN.out).mono ?_
        rintro e w3 ⟨ad3, c3, rfl, L, B⟩
        have hcv3 := cell_later B hcv
        have HB3 := Lib.hid (bel_step HB.out B)
        have HL3 := Lib.hid L
        clear L B hcv
        go_wp2_with fail
        refine (Bt.refUnpack_t _ _ _ zs V _ (HS2.out.below HB3.out) er xs n HE.out HXS.out HN.out).mono ?_
        rintro e w4 ⟨ad4, c4, rfl, L, B⟩
        have hcv4 := cell_later B hcv3
        have HB4 := Lib.hid (bel_step HB3.out B)
        have HL34 := Lib.hid (HL3.out.later B)
        have HL4 := Lib.hid L
        have HCV4 := Lib.hid hcv4
        have hnc := L.2
        obtain ⟨hn1, hn3⟩ := hnc
        have hn2 : n ≤ 9223372036854775807 := by omega
        clear L B hcv3 hcv4
        go_wp2
        go_loopg [11, 12] n (fun g2 s11 s12 wx => ∃ j : Nat, j + g2 = n ∧ s12 = .int .i64 j ∧ s11 = .int .i64 (Bt.sumV (xs.take j)) ∧ wx = w4)
        case atStart => exact ⟨0, by omega, rfl, rfl, rfl⟩
        case round =>
          obtain ⟨j, hj, rfl, rfl, rfl⟩ := hrel
          have j0 : (0 : Int) ≤ j := Int.natCast_nonneg _
          cases gk with
          | zero =>
            obtain rfl : j = n := by omega
            rw [show Bt.sumV (xs.take j) = sx by rw [List.take_of_length_le (by rw [HN.out]; omega)]; exact HSX.out]
            go_wp2
            have hS0 : (fun w' : World => w'.cell? ⟨w.heap.size, k, none⟩ = some (.int .i64 V) ∧ Bt.UnS a0 m cap0 zs ad3 j c3 ad4 c4 xs W2.heap.size W2 w') wr.drew := by
              have hbx : Below wr.heap.size wr wr.drew := ⟨rfl, rfl, rfl, Nat.le_refl _, fun _ _ => rfl⟩
              exact ⟨cell_later hbx HCV4.out, ⟨(HS2.out.below HB4.out).below hbx, HL34.out.later hbx, HL4.out.later hbx, bel_step HB4.out hbx⟩⟩
            have HS0 := Lib.hid hS0
            clear hS0 hn1 hj
            go_region_held3 (fun w' => w'.cell? ⟨w.heap.size, k, none⟩ = some (.int .i64 V) ∧ Bt.UnS a0 m cap0 zs ad3 j c3 ad4 c4 xs W2.heap.size W2 w')
              (first | (with_reducible exact HS0.out) | (go_split_ands; refine ⟨cell_later hb9 ?_, Bt.UnS.later ?_ hb9⟩ <;> assumption) | go_keep)
              (first
                | (go_at_call 47; go_split_ands; refine Calls.mono (Bt.same_un (a0 := a0) (m := m) (cap0 := cap0) (zs := zs) (ad3 := ad3) (n := j) (c3 := c3) (ad4 := ad4) (c4 := c4) (xs := xs) (w0 := W2) ?_ hn2) ?_; assumption; rintro e w9 ⟨rfl, hb9⟩)
                | (go_at_call 48; refine (Bt.bytes_any _ _).mono ?_; rw [HBY.out]; rintro e w9 ⟨rfl, rfl⟩)
                | (go_at_call 49; refine (Bt.refBytes_any _ _).mono ?_; rw [HBY.out]; rintro e w9 ⟨rfl, rfl⟩)
                | (go_at_call 50; go_split_ands; refine Calls.mono (Bt.count_un (a0 := a0) (m := m) (cap0 := cap0) (zs := zs) (ad3 := ad3) (n := j) (c3 := c3) (ad4 := ad4) (c4 := c4) (xs := xs) (w0 := W2) ?_ V sx HSU.out) ?_; assumption; rintro e w9 ⟨rfl, hb9⟩)
                | (go_at_call 51; go_split_ands; refine Calls.mono (Bt.spare_un (a0 := a0) (m := m) (cap0 := cap0) (zs := zs) (ad3 := ad3) (n := j) (c3 := c3) (ad4 := ad4) (c4 := c4) (xs := xs) (w0 := W2) ?_ V sp HSP.out) ?_; assumption; rintro e w9 ⟨rfl, hb9⟩)
                | (go_at_call 52; go_split_ands; refine Calls.mono (Bt.refSpare_un (a0 := a0) (m := m) (cap0 := cap0) (zs := zs) (ad3 := ad3) (n := j) (c3 := c3) (ad4 := ad4) (c4 := c4) (xs := xs) (w0 := W2) ?_ V sp HSP.out) ?_; assumption; rintro e w9 ⟨rfl, hb9⟩))
            have hu : Bt.UnS a0 m cap0 zs ad3 j c3 ad4 c4 xs W2.heap.size W2 w9 := by go_split_ands; assumption
            have hB9 := hu.bel
            have HB9 := Lib.hid hB9
            clear hu hB9
            go_wp2
            go_roundg g
            case measure => omega
            case rel => exact ⟨k + 1, by omega, by go_num, HB9.out⟩
          | succ g2 =>
            have hjn : (j : Int) < n := by omega
            have hsb := Bt.sumV_le (xs.take j) (fun x hx => OX.out x (List.mem_of_mem_take hx))
            have hl : (xs.take j).length = j := by rw [List.length_take, HN.out]; omega
            rw [hl] at hsb
            obtain ⟨y, hy⟩ : ∃ y, Bt.sumV (xs.take j) = y := ⟨_, rfl⟩
            rw [hy] at hsb ⊢
            obtain ⟨y0, y1⟩ := hsb
            rcases HL4.out.1.2 with h0 | ⟨b, o, rfl, hc⟩
            · omega
            have hc := hc j (by omega)
            obtain ⟨x, hx⟩ : ∃ x, xs.getD j 0 = x := ⟨_, rfl⟩
            have hx01 := OX.out x (by rw [← hx]; exact Bt.getD_mem xs j (by rw [HN.out]; omega))
            have hnx := Bt.take_next xs j (by rw [HN.out]; omega)
            rw [hx] at hc hnx
            have x0 : 0 ≤ x := by omega
            have x1 : x ≤ 1 := by omega
            have HY := Lib.hid hy; have HNX := Lib.hid hnx
            clear hl hy hx hx01 hnx
            go_wp2
            go_roundg g2
            case measure => omega
            case rel => exact ⟨j + 1, by omega, by go_num, by rw [← HNX.out, Bt.sumV_snoc, HY.out], rfl⟩
  · have kd : min (len0 : Int) 12 = 12 := by omega
    clear h
    go_enter Try.func7, Try.ntmps7
    go_wp2_with (go_at_call 36; refine (aroundOf a1 101 h1.out.1 h1.out.2 (by omega) (by omega) _).mono ?_; rw [har.out]; rintro e w1 ⟨rfl, rfl⟩)
    obtain ⟨W2, hW2⟩ : ∃ W2, w.alloc (.cells #[.int .i64 a1, .int .i64 ar] 3) = W2 := ⟨_, rfl⟩
    have hcl : ∀ k, k < 2 → ∃ V : Int, -9223372036854775808 ≤ V ∧ V ≤ 9223372036854775807 ∧ W2.cell? ⟨w.heap.size, k, none⟩ = some (.int .i64 V) := fun k hk => by
      rw [← hW2]
      obtain rfl | rfl : k = 0 ∨ k = 1 := by omega
      · exact ⟨a1, h1.out.1, h1.out.2, by simp [go_sem]⟩
      · exact ⟨ar, by omega, by omega, by simp [go_sem]⟩
    have HCL := Lib.hid hcl
    have hb0 : Below w.heap.size w W2 := by rw [← hW2]; exact (Below.refl _ w).alloc (Nat.le_refl _) _
    have HB0 := Lib.hid hb0
    have HS2 := Lib.hid (HS.out.below hb0)
    have hs2 : w.heap.size < W2.heap.size := by rw [← hW2]; simp
    rw [hW2]
    clear hcl hb0 hW2 h1
    go_loopg [6] 2 (fun g s6 wr => ∃ k : Nat, k + g = 2 ∧ s6 = .int .i64 k ∧ Below W2.heap.size W2 wr)
    case atStart => exact ⟨0, rfl, rfl, Below.refl _ _⟩
    case round =>
      obtain ⟨k, hk, rfl, hB⟩ := hrel
      have k0 : (0 : Int) ≤ k := Int.natCast_nonneg _
      have HB := Lib.hid hB
      clear hB
      cases gk with
      | zero =>
        obtain rfl : k = 2 := by omega
        rw [show ((2 : Nat) : Int) = 2 from rfl]
        go_wp2_with (go_at_call 53; refine (Bt.lives7_any _).mono ?_; rintro e wb ⟨rfl, hbb⟩)
        go_ret
        exact ⟨rfl, bel_step (bel_step HB0.out HB.out) hbb⟩
      | succ g =>
        have hk2 : (k : Int) < 2 := by omega
        obtain ⟨V, V0, V1, hcV⟩ := HCL.out k (by omega)
        have hcv := cell_later HB.out hcV
        clear hcV
        obtain ⟨xs, hxs⟩ : ∃ xs, Bt.unpackV zs V = xs := ⟨_, rfl⟩
        have oX : Bt.Ones xs := by rw [← hxs]; exact Bt.unpackV_01 _ _
        obtain ⟨er, her⟩ : ∃ er, Bt.rowE 12 V = er := ⟨_, rfl⟩
        obtain ⟨n, hn⟩ : ∃ n, xs.length = n := ⟨_, rfl⟩
        obtain ⟨sx, hsx⟩ : ∃ sx, Bt.sumV xs = sx := ⟨_, rfl⟩
        obtain ⟨by', hby⟩ : ∃ q, Bt.bytesV V = q := ⟨_, rfl⟩
        obtain ⟨sp, hsp⟩ : ∃ q, Bt.spareV zs V = q := ⟨_, rfl⟩
        have HXS := Lib.hid hxs; have OX := Lib.hid oX; have HE := Lib.hid her; have HN := Lib.hid hn; have HSX := Lib.hid hsx; have HBY := Lib.hid hby; have HSP := Lib.hid hsp
        have HSU := Lib.hid (show Bt.sumV (Bt.unpackV zs V) = sx by rw [hxs]; exact hsx)
        clear hxs oX her hn hsx hby hsp
        go_wp2_with fail
        refine (Bt.unpack_t _ _ _ zs V _ (HS2.out.below HB.out) er xs n HE.out HXS.out HN.out).mono ?_
        rintro e w3 ⟨ad3, c3, rfl, L, B⟩
        have hcv3 := cell_later B hcv
        have HB3 := Lib.hid (bel_step HB.out B)
        have HL3 := Lib.hid L
        clear L B hcv
        go_wp2_with fail
        refine (Bt.refUnpack_t _ _ _ zs V _ (HS2.out.below HB3.out) er xs n HE.out HXS.out HN.out).mono ?_
        rintro e w4 ⟨ad4, c4, rfl, L, B⟩
        have hcv4 := cell_later B hcv3
        have HB4 := Lib.hid (bel_step HB3.out B)
        have HL34 := Lib.hid (HL3.out.later B)
        have HL4 := Lib.hid L
        have HCV4 := Lib.hid hcv4
        have hnc := L.2
        obtain ⟨hn1, hn3⟩ := hnc
        have hn2 : n ≤ 9223372036854775807 := by omega
        clear L B hcv3 hcv4
        go_wp2
        go_loopg [11, 12] n (fun g2 s11 s12 wx => ∃ j : Nat, j + g2 = n ∧ s12 = .int .i64 j ∧ s11 = .int .i64 (Bt.sumV (xs.take j)) ∧ wx = w4)
        case atStart => exact ⟨0, by omega, rfl, rfl, rfl⟩
        case round =>
          obtain ⟨j, hj, rfl, rfl, rfl⟩ := hrel
          have j0 : (0 : Int) ≤ j := Int.natCast_nonneg _
          cases gk with
          | zero =>
            obtain rfl : j = n := by omega
            rw [show Bt.sumV (xs.take j) = sx by rw [List.take_of_length_le (by rw [HN.out]; omega)]; exact HSX.out]
            go_wp2
            have hS0 : (fun w' : World => w'.cell? ⟨w.heap.size, k, none⟩ = some (.int .i64 V) ∧ Bt.UnS a0 12 cap0 zs ad3 j c3 ad4 c4 xs W2.heap.size W2 w') wr.drew := by
              have hbx : Below wr.heap.size wr wr.drew := ⟨rfl, rfl, rfl, Nat.le_refl _, fun _ _ => rfl⟩
              exact ⟨cell_later hbx HCV4.out, ⟨(HS2.out.below HB4.out).below hbx, HL34.out.later hbx, HL4.out.later hbx, bel_step HB4.out hbx⟩⟩
            have HS0 := Lib.hid hS0
            clear hS0 hn1 hj
            go_region_held3 (fun w' => w'.cell? ⟨w.heap.size, k, none⟩ = some (.int .i64 V) ∧ Bt.UnS a0 12 cap0 zs ad3 j c3 ad4 c4 xs W2.heap.size W2 w')
              (first | (with_reducible exact HS0.out) | (go_split_ands; refine ⟨cell_later hb9 ?_, Bt.UnS.later ?_ hb9⟩ <;> assumption) | go_keep)
              (first
                | (go_at_call 47; go_split_ands; refine Calls.mono (Bt.same_un (a0 := a0) (m := 12) (cap0 := cap0) (zs := zs) (ad3 := ad3) (n := j) (c3 := c3) (ad4 := ad4) (c4 := c4) (xs := xs) (w0 := W2) ?_ hn2) ?_; assumption; rintro e w9 ⟨rfl, hb9⟩)
                | (go_at_call 48; refine (Bt.bytes_any _ _).mono ?_; rw [HBY.out]; rintro e w9 ⟨rfl, rfl⟩)
                | (go_at_call 49; refine (Bt.refBytes_any _ _).mono ?_; rw [HBY.out]; rintro e w9 ⟨rfl, rfl⟩)
                | (go_at_call 50; go_split_ands; refine Calls.mono (Bt.count_un (a0 := a0) (m := 12) (cap0 := cap0) (zs := zs) (ad3 := ad3) (n := j) (c3 := c3) (ad4 := ad4) (c4 := c4) (xs := xs) (w0 := W2) ?_ V sx HSU.out) ?_; assumption; rintro e w9 ⟨rfl, hb9⟩)
                | (go_at_call 51; go_split_ands; refine Calls.mono (Bt.spare_un (a0 := a0) (m := 12) (cap0 := cap0) (zs := zs) (ad3 := ad3) (n := j) (c3 := c3) (ad4 := ad4) (c4 := c4) (xs := xs) (w0 := W2) ?_ V sp HSP.out) ?_; assumption; rintro e w9 ⟨rfl, hb9⟩)
                | (go_at_call 52; go_split_ands; refine Calls.mono (Bt.refSpare_un (a0 := a0) (m := 12) (cap0 := cap0) (zs := zs) (ad3 := ad3) (n := j) (c3 := c3) (ad4 := ad4) (c4 := c4) (xs := xs) (w0 := W2) ?_ V sp HSP.out) ?_; assumption; rintro e w9 ⟨rfl, hb9⟩))
            have hu : Bt.UnS a0 12 cap0 zs ad3 j c3 ad4 c4 xs W2.heap.size W2 w9 := by go_split_ands; assumption
            have hB9 := hu.bel
            have HB9 := Lib.hid hB9
            clear hu hB9
            go_wp2
            go_roundg g
            case measure => omega
            case rel => exact ⟨k + 1, by omega, by go_num, HB9.out⟩
          | succ g2 =>
            have hjn : (j : Int) < n := by omega
            have hsb := Bt.sumV_le (xs.take j) (fun x hx => OX.out x (List.mem_of_mem_take hx))
            have hl : (xs.take j).length = j := by rw [List.length_take, HN.out]; omega
            rw [hl] at hsb
            obtain ⟨y, hy⟩ : ∃ y, Bt.sumV (xs.take j) = y := ⟨_, rfl⟩
            rw [hy] at hsb ⊢
            obtain ⟨y0, y1⟩ := hsb
            rcases HL4.out.1.2 with h0 | ⟨b, o, rfl, hc⟩
            · omega
            have hc := hc j (by omega)
            obtain ⟨x, hx⟩ : ∃ x, xs.getD j 0 = x := ⟨_, rfl⟩
            have hx01 := OX.out x (by rw [← hx]; exact Bt.getD_mem xs j (by rw [HN.out]; omega))
            have hnx := Bt.take_next xs j (by rw [HN.out]; omega)
            rw [hx] at hc hnx
            have x0 : 0 ≤ x := by omega
            have x1 : x ≤ 1 := by omega
            have HY := Lib.hid hy; have HNX := Lib.hid hnx
            clear hl hy hx hx01 hnx
            go_wp2
            go_roundg g2
            case measure => omega
            case rel => exact ⟨j + 1, by omega, by go_num, by rw [← HNX.out, Bt.sumV_snoc, HY.out], rfl⟩
end Go.Proofs.Ytjjpnipcpnkakaa

/- WordsLabels: the row of a width that ends at each place, by the code and by the document. The walk of the law. No condition. -/
import Derived.Test.YtpkikhoicobmcaaZWdP
namespace Go.Proofs.Ytpkikhoicobmcaa
open Go.RowKit
set_option linter.unusedVariables false
open Tr Au Wd
set_option maxRecDepth 100000 in
set_option maxHeartbeats 8000000 in
theorem wordsLabels_walk (a0 : Option Addr) (len0 cap0 : Nat) (a1 : Bool) (a2 : Option Addr) (len2 cap2 : Nat) (z2 : List Int) (a3 : Int) (w : World) (w0 : IsRows w a0 len0 cap0) (w2 : IsRow .u64 w a2 len2 cap2 z2) (w3 : (Lit.int .i64 a3).wf = true) :
    Calls Try.prog 5 #[.slice a0 len0 cap0, .bool a1, .slice a2 len2 cap2, .int .i64 a3] w fun e w' => e = .returned (.bool true) ∧ Below w.heap.size w w' := by
  obtain ⟨A, N, C, Z, hat⟩ := isrows_at w0
  obtain ⟨S, _, hok, hl8, hd5, hB⟩ := begin14_use (cap := cap0) hat (isrows_len w0) a1
  have HBG := Lib.hid hB
  unfold BegU at HBG
  have HOK := Lib.hid hok
  have HD := Lib.hid hd5
  have HPOS := Lib.hid (ok_pos hok)
  obtain ⟨sn, hsn⟩ : ∃ sn, S.length = sn := ⟨_, rfl⟩
  have HSN := Lib.hid hsn
  rw [hsn] at HBG hl8
  have HLV := Lib.hid (fun W => lives14_any W)
  obtain ⟨X, n, hXn, hn12, hrow⟩ := row14 w2 12 (by omega)
  have HROW := Lib.hid hrow
  have HXN := Lib.hid hXn
  have ha3 := wfI w3
  clear w0 hat hok hd5 hB hsn hrow hXn w2 w3
  go_enter Try.func5, Try.ntmps5
  go_upto_region 4 with (go_at_call 9; refine HBG.out.mono ?_; rintro e w1 ⟨B, sb, tb, nb, nc, mb, rv, ra, rc, vs, rfl, hX, hrv, hlo, hb⟩; have HX := Lib.hid hX; have HRV := Lib.hid hrv; have HLO := Lib.hid hlo; have HB := Lib.hid hb; clear hX hrv hlo hb)
  obtain ⟨F, hF⟩ : ∃ F : Nat → Prop, Fw sb tb nb mb (pathsOf S).length rv = F := ⟨_, rfl⟩
  have HF := Lib.hid hF
  rw [hF] at HRV
  have HFLT : Hid (∀ g, F g → B ≤ g ∧ g < w1.heap.size) := Lib.hid (fun g hg => by rw [← hF] at hg; exact HX.out.x.lt hg)
  have HFS : Hid (F sb) := Lib.hid (by rw [← hF]; exact .inr (.inl rfl))
  clear hF
  go_upto_region 5 with (go_at_call 17; refine (HROW.out _ HB.out).mono ?_; rintro e w2 ⟨xa, xc, rfl, hxs, hxc, hxc9, hb⟩; have HXS := Lib.hid (hxs F (fun g hg => (HFLT.out g hg).2)); have HB2 := Lib.hid hb; clear hxs hb)
  have HX2 := Lib.hid (HX.out.later HB2.out)
  go_wp2_with fail
  go_loopw [12] (fun s12 wr => ∃ (j : Nat) (av : Value), j ≤ 8 ∧ s12 = .int .i64 ((j : Int) - 1) ∧ WsA wr B sb tb nb nc mb rv av S ∧ Sep F w2 wr) (fun s12 _ => 8 - (intOf s12 + 1).toNat)
  case atStart => exact ⟨0, _, by omega, by simp, HX2.out, Sep.refl _ _⟩
  case round =>
    obtain ⟨j, av, hj, rfl, hws, hse⟩ := hrel
    have HWSj := Lib.hid hws
    have HSEj := Lib.hid hse
    clear hws hse
    obtain ⟨k, hk⟩ : ∃ k, (j : Int) - 1 = k := ⟨_, rfl⟩
    rw [hk]
    have HK := Lib.hid hk
    by_cases hlt : j < 8
    · have hkI : k ≤ 6 := by omega
      by_cases hk0 : k < 0
      · clear hk
        have hla := wLabel_any (c := xc) (W := a3) HWSj.out HOK.out (by rw [HSN.out]; omega) HD.out (fun w' hs => HXS.out w' (HSEj.out.trans (hs.mono fun g e => by rw [e]; exact HFS.out))) hn12 (by omega)
        unfold LabR at hla
        have HLA := Lib.hid hla
        clear hla
        go_wp2_with fail
        refine HLA.out.mono ?_
        rintro e w9 ⟨g, av9, rfl, hlb, hws9, hs9⟩
        have HLB := Lib.hid hlb
        have HWS9 := Lib.hid hws9
        have HS9 : Hid (Sep F w2 w9) := Lib.hid (HSEj.out.trans (hs9.mono fun g e => by rw [e]; exact HFS.out))
        clear hlb hws9 hs9
        go_wp2_with fail
        go_loopw [15] (fun s15 wz => ∃ x : Nat, x ≤ n ∧ s15 = .int .i64 (x : Int) ∧ Below w9.heap.size w9 wz) (fun s15 _ => n - (intOf s15).toNat)
        case atStart => exact ⟨0, Nat.zero_le _, rfl, Below.refl _ _⟩
        case round =>
          obtain ⟨x, hx, rfl, hbz⟩ := hrel
          have HBZ := Lib.hid hbz
          clear hbz
          by_cases hxt : x < n
          · have hxI : (x : Int) < (n : Int) := by omega
            have hx0 : (0 : Int) ≤ (x : Int) := Int.natCast_nonneg _
            have e1 := HLB.out wr (sep_of HBZ.out) x hxt
            have HRL := Lib.hid (fun W (hb : Below wr.heap.size wr W) => refLabel14 (c := xc) (rc := rc) (x := x) (W := a3) (HRV.out W ((sep_of HB2.out).trans (HS9.out.trans (sep_of (bel_step HBZ.out hb))))) (by omega) HPOS.out (HXS.out W (HS9.out.trans (sep_of (bel_step HBZ.out hb)))) hxc hxc9 hxt)
            obtain ⟨y, hy⟩ : ∃ y, labV S (X.take (x + 1)) a3 = y := ⟨_, rfl⟩
            rw [hy] at HRL e1
            have hyy : (y != y) = false := by simp
            have hBr := Below.refl wr.heap.size wr
            clear hy
            go_wp2_with fail
            go_region_held3 (fun w' => w'.cell? ⟨g, x, none⟩ = some (.int .i64 y))
              (first | exact e1 | exact cell_later hBr e1)
              (first | (go_at_call 21; refine (HRL.out _ (by first | exact hBr | exact hBr.drew)).mono ?_; rintro e w8 ⟨rfl, hb8⟩; replace hBr := bel_step (by first | exact hBr | exact hBr.drew) hb8; clear hb8))
            all_goals
              go_wp2_with fail
              go_roundw
              case rel => exact ⟨x + 1, by omega, by go_num, bel_step HBZ.out hBr⟩
              case measure => simp [intOf]; omega
          · obtain rfl : x = n := by omega
            have hxI : ¬ (x : Int) < (x : Int) := by omega
            go_wp2_with fail
            go_roundw
            case rel =>
              have := HK.out
              try rw [IntWalk.wrap64_in _ (by omega)]
              exact ⟨j + 1, av9, by omega, congrArg (Value.int IntKind.i64) (by omega), HWS9.out.later HBZ.out, HS9.out.trans (sep_of HBZ.out)⟩
            case measure =>
              have := HK.out
              try rw [IntWalk.wrap64_in _ (by omega)]
              simp only [intOf]; omega
      · clear hk
        have hla := wLabel_any (c := xc) (W := k) HWSj.out HOK.out (by rw [HSN.out]; omega) HD.out (fun w' hs => HXS.out w' (HSEj.out.trans (hs.mono fun g e => by rw [e]; exact HFS.out))) hn12 (by omega)
        unfold LabR at hla
        have HLA := Lib.hid hla
        clear hla
        go_wp2_with fail
        refine HLA.out.mono ?_
        rintro e w9 ⟨g, av9, rfl, hlb, hws9, hs9⟩
        have HLB := Lib.hid hlb
        have HWS9 := Lib.hid hws9
        have HS9 : Hid (Sep F w2 w9) := Lib.hid (HSEj.out.trans (hs9.mono fun g e => by rw [e]; exact HFS.out))
        clear hlb hws9 hs9
        go_wp2_with fail
        go_loopw [15] (fun s15 wz => ∃ x : Nat, x ≤ n ∧ s15 = .int .i64 (x : Int) ∧ Below w9.heap.size w9 wz) (fun s15 _ => n - (intOf s15).toNat)
        case atStart => exact ⟨0, Nat.zero_le _, rfl, Below.refl _ _⟩
        case round =>
          obtain ⟨x, hx, rfl, hbz⟩ := hrel
          have HBZ := Lib.hid hbz
          clear hbz
          by_cases hxt : x < n
          · have hxI : (x : Int) < (n : Int) := by omega
            have hx0 : (0 : Int) ≤ (x : Int) := Int.natCast_nonneg _
            have e1 := HLB.out wr (sep_of HBZ.out) x hxt
            have HRL := Lib.hid (fun W (hb : Below wr.heap.size wr W) => refLabel14 (c := xc) (rc := rc) (x := x) (W := k) (HRV.out W ((sep_of HB2.out).trans (HS9.out.trans (sep_of (bel_step HBZ.out hb))))) (by omega) HPOS.out (HXS.out W (HS9.out.trans (sep_of (bel_step HBZ.out hb)))) hxc hxc9 hxt)
            obtain ⟨y, hy⟩ : ∃ y, labV S (X.take (x + 1)) k = y := ⟨_, rfl⟩
            rw [hy] at HRL e1
            have hyy : (y != y) = false := by simp
            have hBr := Below.refl wr.heap.size wr
            clear hy
            go_wp2_with fail
            go_region_held3 (fun w' => w'.cell? ⟨g, x, none⟩ = some (.int .i64 y))
              (first | exact e1 | exact cell_later hBr e1)
              (first | (go_at_call 21; refine (HRL.out _ (by first | exact hBr | exact hBr.drew)).mono ?_; rintro e w8 ⟨rfl, hb8⟩; replace hBr := bel_step (by first | exact hBr | exact hBr.drew) hb8; clear hb8))
            all_goals
              go_wp2_with fail
              go_roundw
              case rel => exact ⟨x + 1, by omega, by go_num, bel_step HBZ.out hBr⟩
              case measure => simp [intOf]; omega
          · obtain rfl : x = n := by omega
            have hxI : ¬ (x : Int) < (x : Int) := by omega
            go_wp2_with fail
            go_roundw
            case rel =>
              have := HK.out
              try rw [IntWalk.wrap64_in _ (by omega)]
              exact ⟨j + 1, av9, by omega, congrArg (Value.int IntKind.i64) (by omega), HWS9.out.later HBZ.out, HS9.out.trans (sep_of HBZ.out)⟩
            case measure =>
              have := HK.out
              try rw [IntWalk.wrap64_in _ (by omega)]
              simp only [intOf]; omega
    · have hkI : ¬ k ≤ 6 := by omega
      go_wp2_with fail
      refine (HLV.out _).mono ?_
      rintro e w9 ⟨rfl, hb9⟩
      have HB9 := Lib.hid hb9
      clear hb9
      go_wp2_with fail
      go_ret
      refine ⟨rfl, ?_⟩
      have h1 : Sep F w1 wr := (sep_of HB2.out).trans HSEj.out
      exact bel_step (HB.out.trans (h1.below HB.out.size fun k hk e => by have h3 := (HFLT.out k e).1; have h4 := HLO.out; omega)) HB9.out
end Go.Proofs.Ytpkikhoicobmcaa

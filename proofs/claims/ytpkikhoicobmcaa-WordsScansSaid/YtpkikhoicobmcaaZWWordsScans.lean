/- WordsScans: the rows that end at each place, by the code and by the document. The walk of the law. No condition. -/
import Derived.Test.YtpkikhoicobmcaaZWdP
namespace Go.Proofs.Ytpkikhoicobmcaa
open Go.RowKit
set_option linter.unusedVariables false
open Tr Au Wd
theorem two_rows {F : Nat → Prop} {w w1 W : World} {B : Nat} {t : TypeId} {a2 xa : Option Addr} {len2 cap2 n xc m : Nat} {z2 X : List Int} (h2 : IsRow .u64 w a2 len2 cap2 z2) (hb1 : Below w.heap.size w w1) (hF : ∀ g, F g → B ≤ g ∧ g < w1.heap.size) (hlo : w.heap.size ≤ B) (hm : m ≤ len2) (hm12 : m ≤ 12) (hn : n ≤ 12) (hxc : n ≤ xc) (hxc9 : xc ≤ 9223372036854775807) (hbW : Below w1.heap.size w1 W) (hxs : ∀ w', Sep F W w' → SlK .u64 w' xa n X) :
    ∀ i, i < 2 → ∃ ai ni ci Xi, ni ≤ 12 ∧ ni ≤ ci ∧ ci ≤ 9223372036854775807 ∧ ∀ w', Sep F (W.alloc (.cells #[.slice a2 m cap2, .slice xa n xc] t)) w' → w'.cell? ⟨W.heap.size, i, none⟩ = some (.slice ai ni ci) ∧ SlK .u64 w' ai ni Xi := by
  have hl := isrow_len h2
  have hnew := World.alloc_heap_new W (.cells #[.slice a2 m cap2, .slice xa n xc] t)
  have hba := box1T W (.cells #[.slice a2 m cap2, .slice xa n xc] t)
  have hnF : ¬ F W.heap.size := fun e => by have h1 := (hF _ e).2; have h2 := hbW.size; omega
  intro i hi
  have hi2 : i = 0 ∨ i = 1 := by omega
  rcases hi2 with rfl | rfl
  · refine ⟨a2, m, cap2, z2.take m, hm12, by omega, hl.2.2.2, fun w' hs => ⟨hs.cell hnF (by simp [go_sem]), isrow_sl h2 hm ?_⟩⟩
    have h3 : Sep F w1 w' := (sep_of (bel_step hbW hba)).trans hs
    exact hb1.trans (h3.below hb1.size fun k hk e => by have h4 := (hF k e).1; omega)
  · exact ⟨xa, n, xc, X, hn, hxc, hxc9, fun w' hs => ⟨hs.cell hnF (by simp [go_sem]), hxs w' ((sep_of hba).trans hs)⟩⟩
set_option maxRecDepth 100000 in
set_option maxHeartbeats 8000000 in
theorem wordsScans_walk (a0 : Option Addr) (len0 cap0 : Nat) (a1 : Bool) (a2 : Option Addr) (len2 cap2 : Nat) (z2 : List Int) (w : World) (w0 : IsRows w a0 len0 cap0) (w2 : IsRow .u64 w a2 len2 cap2 z2) :
    Calls Try.prog 4 #[.slice a0 len0 cap0, .bool a1, .slice a2 len2 cap2] w fun e w' => e = .returned (.bool true) ∧ Below w.heap.size w w' := by
  obtain ⟨A, N, C, Z, hat⟩ := isrows_at w0
  obtain ⟨S, _, hok, hl8, hd5, hB⟩ := begin14_use (cap := cap0) hat (isrows_len w0) a1
  have HBG := Lib.hid hB
  unfold BegU at HBG
  have HOK := Lib.hid hok
  have HD := Lib.hid hd5
  have HPOS := Lib.hid (ok_pos hok)
  obtain ⟨sn, hsn⟩ : ∃ sn, S.length = sn := ⟨_, rfl⟩
  have HSN := Lib.hid hsn
  rw [hsn] at HBG hl8
  have HLV := Lib.hid (fun W => lives14_any W)
  obtain ⟨X, n, hXn, hn12, hrow⟩ := row14 w2 12 (by omega)
  have HROW := Lib.hid hrow
  have HXN := Lib.hid hXn
  have H2 := Lib.hid w2
  have h3l := isrow_len w2
  obtain ⟨m5, hm5⟩ : ∃ m5, min len2 12 = m5 := ⟨_, rfl⟩
  obtain ⟨g1, g2, g3, g4⟩ := h3l
  have hm5a : m5 ≤ cap2 := by omega
  have hm5b : (m5 : Int) ≤ (cap2 : Int) := by omega
  have hm5z : (0 : Int) ≤ (m5 : Int) := Int.natCast_nonneg _
  have hm5c : m5 ≤ len2 := by omega
  have hm55 : m5 ≤ 12 := by omega
  clear w0 hat hok hd5 hB hsn hrow hXn w2 g2
  go_enter Try.func4, Try.ntmps4
  go_upto_region 4 with (go_at_call 9; refine HBG.out.mono ?_; rintro e w1 ⟨B, sb, tb, nb, nc, mb, rv, ra, rc, vs, rfl, hX, hrv, hlo, hb⟩; have HX := Lib.hid hX; have HRV := Lib.hid hrv; have HLO := Lib.hid hlo; have HB := Lib.hid hb; clear hX hrv hlo hb)
  obtain ⟨F, hF⟩ : ∃ F : Nat → Prop, Fw sb tb nb mb (pathsOf S).length rv = F := ⟨_, rfl⟩
  have HF := Lib.hid hF
  rw [hF] at HRV
  have HFLT : Hid (∀ g, F g → B ≤ g ∧ g < w1.heap.size) := Lib.hid (fun g hg => by rw [← hF] at hg; exact HX.out.x.lt hg)
  have HFS : Hid (F sb) := Lib.hid (by rw [← hF]; exact .inr (.inl rfl))
  clear hF
  go_cut [9] from 21 to 28 (fun s9 wx => ∃ ga, s9 = .slice (some ⟨ga, 0, none⟩) 2 2 ∧ Below w1.heap.size w1 wx ∧ ∀ i, i < 2 → ∃ ai ni ci Xi, ni ≤ 12 ∧ ni ≤ ci ∧ ci ≤ 9223372036854775807 ∧ ∀ w', Sep F wx w' → w'.cell? ⟨ga, i, none⟩ = some (.slice ai ni ci) ∧ SlK .u64 w' ai ni Xi)
  case first =>
    by_cases h5 : len2 ≤ 12
    · obtain rfl : m5 = len2 := by omega
      have d1 : decide ((12 : Int) < (m5 : Int)) = false := decide_eq_false (by omega)
      have d2 : decide ((m5 : Int) ≤ (12 : Int)) = true := decide_eq_true (by omega)
      have d3 : (m5 : Int) ≤ 12 := by omega
      have d4 : ¬ (12 : Int) < (m5 : Int) := by omega
      have d5 : ¬ 12 < m5 := by omega
      have d6 : min (m5 : Int) 12 = (m5 : Int) := by omega
      clear hm5
      go_region_with (first | (go_at_call 17; refine (HROW.out _ (by first | exact HB.out | exact HB.out.drew)).mono ?_; rintro e w2 ⟨xa, xc, rfl, hxs, hxc, hxc9, hb⟩; have HXS := Lib.hid (hxs F (fun g hg => (HFLT.out g hg).2)); have HXC := Lib.hid hxc; have HXC9 := Lib.hid hxc9; have HB2 := Lib.hid (show Below w1.heap.size w1 w2 from by first | exact hb | exact bel_und hb); clear hxs hb hxc hxc9))
      all_goals
        go_wp2_with fail
        go_meet
        case rel => exact ⟨_, rfl, bel_step HB2.out (box1T _ _), two_rows H2.out HB.out HFLT.out HLO.out hm5c hm55 hn12 HXC.out HXC9.out HB2.out HXS.out⟩
    · obtain rfl : m5 = 12 := by omega
      have d1 : decide ((12 : Int) < (len2 : Int)) = true := decide_eq_true (by omega)
      have d2 : decide ((len2 : Int) ≤ (12 : Int)) = false := decide_eq_false (by omega)
      have d3 : ¬ (len2 : Int) ≤ 12 := by omega
      have d4 : (12 : Int) < (len2 : Int) := by omega
      have d5 : 12 < len2 := by omega
      have d6 : min (len2 : Int) 12 = 12 := by omega
      have d7 : (12 : Int) ≤ (cap2 : Int) := by omega
      have d8 : 12 ≤ cap2 := by omega
      have d9 : (if (12 : Int) < (len2 : Int) then (12 : Int) else (len2 : Int)) = 12 := if_pos (by omega)
      clear hm5
      go_region_with (first | (go_at_call 17; refine (HROW.out _ (by first | exact HB.out | exact HB.out.drew)).mono ?_; rintro e w2 ⟨xa, xc, rfl, hxs, hxc, hxc9, hb⟩; have HXS := Lib.hid (hxs F (fun g hg => (HFLT.out g hg).2)); have HXC := Lib.hid hxc; have HXC9 := Lib.hid hxc9; have HB2 := Lib.hid (show Below w1.heap.size w1 w2 from by first | exact hb | exact bel_und hb); clear hxs hb hxc hxc9))
      all_goals
        go_wp2_with fail
        go_meet
        case rel => exact ⟨_, rfl, bel_step HB2.out (box1T _ _), two_rows H2.out HB.out HFLT.out HLO.out hm5c hm55 hn12 HXC.out HXC9.out HB2.out HXS.out⟩
  case rest =>
    obtain ⟨ga, rfl, hb2, hall⟩ := hcut
    have HB2 := Lib.hid hb2
    have HALL := Lib.hid hall
    clear hb2 hall
    have HX2 := Lib.hid (HX.out.later HB2.out)
    go_wp2_with fail
    go_loopw [10] (fun s10 wr => ∃ (j : Nat) (av : Value), j ≤ 2 ∧ s10 = .int .i64 (j : Int) ∧ WsA wr B sb tb nb nc mb rv av S ∧ Sep F wc wr) (fun s10 _ => 2 - (intOf s10).toNat)
    case atStart => exact ⟨0, _, by omega, rfl, HX2.out, Sep.refl _ _⟩
    case round =>
      obtain ⟨j, av, hj, rfl, hws, hse⟩ := hrel
      have HWSj := Lib.hid hws
      have HSEj := Lib.hid hse
      clear hws hse
      by_cases hlt : j < 2
      · have hjI : (j : Int) < 2 := by omega
        have hj0 : (0 : Int) ≤ (j : Int) := Int.natCast_nonneg _
        obtain ⟨ai, ni, ci, Xi, hni, hnc, hc9, hri⟩ := HALL.out j hlt
        have HRI := Lib.hid hri
        have q0 := (hri wr HSEj.out).1
        have hsc := wScan_any (c := ci) HWSj.out HOK.out (by rw [HSN.out]; omega) HD.out (fun w' hs => (HRI.out w' (HSEj.out.trans (hs.mono fun g e => by rw [e]; exact HFS.out))).2) (by omega)
        unfold ScanR at hsc
        have HSCN := Lib.hid hsc
        clear hsc hri
        go_wp2_with fail
        refine HSCN.out.mono ?_
        rintro e w9 ⟨gl, av9, rfl, hsa, hws9, hs9⟩
        have HSA := Lib.hid hsa
        have HWS9 := Lib.hid hws9
        have HS9 : Hid (Sep F wc w9) := Lib.hid (HSEj.out.trans (hs9.mono fun g e => by rw [e]; exact HFS.out))
        have q9 := (HRI.out w9 HS9.out).1
        clear hsa hws9 hs9 q0
        go_wp2_with fail
        go_loopw [12] (fun s12 wz => ∃ x : Nat, x ≤ ni ∧ s12 = .int .i64 (x : Int) ∧ Below w9.heap.size w9 wz) (fun s12 _ => ni - (intOf s12).toNat)
        case atStart => exact ⟨0, Nat.zero_le _, rfl, Below.refl _ _⟩
        case round =>
          obtain ⟨x, hx, rfl, hbz⟩ := hrel
          have HBZ := Lib.hid hbz
          have hsz : Sep F wc wr := HS9.out.trans (sep_of hbz)
          have HSZ := Lib.hid hsz
          clear hbz
          by_cases hxt : x < ni
          · have hxI : (x : Int) < (ni : Int) := by omega
            have hx0 : (0 : Int) ≤ (x : Int) := Int.natCast_nonneg _
            obtain ⟨pa, pc, e1, _⟩ := HSA.out wr (sep_of HBZ.out) x hxt
            have HSL := Lib.hid (fun W (hb : Below wr.heap.size wr W) => HSA.out W (sep_of (bel_step HBZ.out hb)) x hxt)
            have e2 := (HRI.out wr hsz).1
            have HEN := Lib.hid (fun W (hb : Below wr.heap.size wr W) => refEnds14 (c := ci) (rc := rc) (x := x) (HRV.out W ((sep_of HB2.out).trans (HSZ.out.trans (sep_of hb)))) (by omega) HPOS.out (HRI.out W (HSZ.out.trans (sep_of hb))).2 hnc hc9 hxt)
            unfold EndsQ at HEN
            have hfl := fin_len8 (q := Xi.take (x + 1)) (by rw [HSN.out]; exact hl8)
            obtain ⟨E, hE⟩ : ∃ E, fin S (Xi.take (x + 1)) = E := ⟨_, rfl⟩
            rw [hE] at HEN hfl e1 HSL
            obtain ⟨en, hen⟩ : ∃ en, E.length = en := ⟨_, rfl⟩
            have HEN2 := Lib.hid hen
            rw [hen] at HEN hfl e1 HSL
            have HSM : Hid (∀ W, Below wr.heap.size wr W → SlK .i64 W pa en E) := Lib.hid (fun W hb => by
              obtain ⟨a', c', h1, h2⟩ := HSL.out W hb
              have h3 := cell_later hb e1
              rw [h3] at h1; injection h1 with h1; injection h1 with h1 _ _
              rw [h1]; exact h2)
            have hBr := Below.refl wr.heap.size wr
            clear hE hen hsz HSL
            go_wp2_with fail
            go_region_held3 (fun w' => w'.cell? ⟨gl, x, none⟩ = some (.slice pa en pc) ∧ w'.cell? ⟨ga, j, none⟩ = some (.slice ai ni ci))
              (first | exact ⟨e1, e2⟩ | exact ⟨cell_later hBr e1, cell_later hBr e2⟩)
              (first
                | (go_at_call 19; refine (HEN.out _ (by first | exact hBr | exact hBr.drew)).mono ?_; rintro e w8 ⟨ea, ec, rfl, heo, hb8⟩; have HEO := Lib.hid heo; replace hBr := bel_step (by first | exact hBr | exact hBr.drew) hb8; clear heo hb8)
                | (go_at_call 13; refine (Sm.same_self _ _ en en _ _ E _ (by omega) (HSM.out _ (by first | exact hBr | exact hBr.drew)) (by have h := HEO.out.sl; rw [HEN2.out] at h; exact h)).mono ?_; rintro e w10 ⟨rfl, hb10⟩; replace hBr := bel_step (by first | exact hBr | exact hBr.drew) hb10; clear hb10))
            all_goals
              go_wp2_with fail
              go_roundw
              case rel => exact ⟨x + 1, by omega, by go_num, bel_step HBZ.out hBr⟩
              case measure => simp [intOf]; omega
          · obtain rfl : x = ni := by omega
            have hxI : ¬ (x : Int) < (x : Int) := by omega
            go_wp2_with fail
            go_roundw
            case rel => exact ⟨j + 1, av9, by omega, by go_num, HWS9.out.later HBZ.out, HSZ.out⟩
            case measure => simp [intOf]; omega
      · obtain rfl : j = 2 := by omega
        have hjI : ¬ ((2 : Nat) : Int) < 2 := by omega
        go_wp2_with fail
        refine (HLV.out _).mono ?_
        rintro e w9 ⟨rfl, hb9⟩
        have HB9 := Lib.hid hb9
        clear hb9
        go_wp2_with fail
        go_ret
        refine ⟨rfl, ?_⟩
        have h1 : Sep F w1 wr := (sep_of HB2.out).trans HSEj.out
        exact bel_step (HB.out.trans (h1.below HB.out.size fun k hk e => by have h3 := (HFLT.out k e).1; have h4 := HLO.out; omega)) HB9.out
end Go.Proofs.Ytpkikhoicobmcaa

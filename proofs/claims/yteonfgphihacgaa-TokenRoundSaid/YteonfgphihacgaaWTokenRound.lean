/- TokenRound: numbers with blanks between are read as they were: the walk of the law. No condition. -/
import Derived.Test.YteonfgphihacgaaTokH
import Derived.Test.YteonfgphihacgaaTokP
import Derived.Test.YteonfgphihacgaaSamI
import Derived.Deep.RegionHeld3
import Derived.Deep.DeepCutAuto
namespace Go.Proofs.Yteonfgphihacgaa
open Go.RowKit Go.Shelf
set_option linter.unusedVariables false

theorem box1 (w : World) (o : Obj) : Below w.heap.size w (w.alloc o) := (Below.refl _ w).alloc (Nat.le_refl _) o
namespace Tr
theorem row_below {w w' : World} {base size k : Nat} {e : TypeId} {v : Value} {xs : List Value} (hr : w.ownsRow base e size v k xs) (hb : Below w.heap.size w w') : w'.ownsRow base e size v k xs := _root_.Go.Proofs.Yteonfgphihacgaa.row_below hr hb
/-- the bytes that are blanks, by number -/
def bl6 (j : Nat) : Int := if j = 0 then 9 else if j = 1 then 10 else if j = 2 then 11 else if j = 3 then 12 else if j = 4 then 13 else 32
theorem bl6_blank (j : Nat) : Tk.blank (bl6 j) = true := by unfold bl6; repeat' split
                                                            all_goals rfl
theorem bl6_byte (j : Nat) : 0 ≤ bl6 j ∧ bl6 j ≤ 255 := by unfold bl6; repeat' split
                                                           all_goals omega
theorem around6 (a : Int) : ∃ j : Nat, j < 6 ∧ Ar.around a 6 = (j : Int) := by
  obtain ⟨h0, h1⟩ := Ar.around_lt a 6 (by omega)
  exact ⟨(Ar.around a 6).toNat, by omega, by omega⟩
theorem six {j : Nat} (h : j < 6) : j = 0 ∨ j = 1 ∨ j = 2 ∨ j = 3 ∨ j = 4 ∨ j = 5 := by omega
/-- read from the first byte on, the text holds these numbers, whatever follows -/
def Holds (s : ByteArray) (want : List Int) : Prop := ∀ r, Tk.allF 4611686018427387903 Tk.new 0 0 [] (bytesOf s ++ r) = Tk.allF 4611686018427387903 Tk.new s.size (s.size : Int) want r
theorem holds_nil : Holds ⟨#[]⟩ [] := fun r => rfl
theorem holds_snoc {s : ByteArray} {want : List Int} (h : Holds s want) {k c : Int} (h0 : 0 ≤ k) (h1 : k ≤ 4611686018427387903) (hc : Tk.blank c = true) (c0 : 0 ≤ c) (c1 : c ≤ 255) : Holds (s ++ strOfNums (Nu.decV k) ++ strOfNums [c]) (want ++ [k]) := fun r => by
  have hs : (s ++ strOfNums (Nu.decV k) ++ strOfNums [c]).size = s.size + ((Nu.decV k).length + 1) := by
    rw [ByteArray.size_append, ByteArray.size_append, strOfNums_size, strOfNums_size]; simp; omega
  rw [bytesOf_append, bytesOf_append, bytesOf_strOfNums (Nu.decV_bytes k), bytesOf_strOfNums (xs := [c]) (by intro x hx; rw [List.mem_singleton.1 hx]; omega)]
  rw [List.append_assoc, List.append_assoc, h, ← List.append_assoc, Tk.all_dec h0 h1 hc, hs]
theorem holds_all {s : ByteArray} {want : List Int} (h : Holds s want) : Tk.allV (bytesOf s) 4611686018427387903 = (want, (s.size : Int), 0) := by
  have := h []
  rw [List.append_nil] at this
  unfold Tk.allV
  rw [this, Tk.allF_nil]
  rfl
end Tr
theorem Tr.of_drew {w w9 : World} (h : Below w.drew.heap.size w.drew w9) : Below w.heap.size w w9 := Below.trans (b := w.drew) ⟨rfl, rfl, rfl, Nat.le_refl _, fun _ _ => rfl⟩ h
theorem Tr.conv_later {W w9 : World} (x : Int) {b : Nat} (hbk : W.heap.size = b) (hb : Below (W.alloc (.cells #[.int .u8 x] 5)).heap.size (W.alloc (.cells #[.int .u8 x] 5)) w9) :
    (convert 45 9 (.slice (some ⟨b, 0, none⟩) 1 1)).run Try.prog w9 = .ok (.string (strOfNums [x])) w9 := by
  subst hbk
  refine run_convert_bytes_arg (P := Try.prog) w9 45 5 Try.underlying45 Try.underlying5 W.heap.size 0 1 1 [x] rfl (fun i hi => ?_) 9 Try.underlying9
  have hi0 : i = 0 := by simp at hi; omega
  subst hi0
  exact cell_later hb (by simp [go_sem])
set_option maxRecDepth 100000 in
set_option maxHeartbeats 8000000 in
theorem tokenRound_walk (a0 : Option Addr) (len0 cap0 : Nat) (z0 : List Int) (a1 : Option Addr) (len1 cap1 : Nat) (z1 : List Int) (w : World) (w0 : IsRow .i64 w a0 len0 cap0 z0) (w1 : IsRow .i64 w a1 len1 cap1 z1) :
    Calls Try.prog 6 #[.slice a0 len0 cap0, .slice a1 len1 cap1] w fun e w' => e = .returned (.bool true) ∧ Below w.heap.size w w' := by
  obtain ⟨l1, l2, l3, l4⟩ := isrow_len w0
  obtain ⟨q1, q2, q3, q4⟩ := isrow_len w1
  obtain ⟨hzl0, hsl0⟩ := isrow_takeK w0 len0 (Nat.le_refl _)
  obtain ⟨hzl1, hsl1⟩ := isrow_takeK w1 len1 (Nat.le_refl _)
  have hb0 : Hid (∀ x ∈ z0.take len0, -9223372036854775808 ≤ x ∧ x ≤ 9223372036854775807) := fun x hx => wfI (isrow_wfK w0 x (List.mem_of_mem_take hx))
  have hb1 : Hid (∀ x ∈ z1.take len1, -9223372036854775808 ≤ x ∧ x ≤ 9223372036854775807) := fun x hx => wfI (isrow_wfK w1 x (List.mem_of_mem_take hx))
  generalize z0.take len0 = zs at hzl0 hsl0 hb0
  generalize z1.take len1 = ys at hzl1 hsl1 hb1
  have HS0 : Hid (SlK .i64 w a0 len0 zs) := ⟨hzl0, hsl0⟩
  have HS1 : Hid (SlK .i64 w a1 len1 ys) := ⟨hzl1, hsl1⟩
  clear w0 w1 hzl0 hsl0 hzl1 hsl1 l2 l3 l4 q2 q3 q4
  obtain ⟨i0, hi, hz0, hz1, hz2⟩ := info_parts Try.info_i
  have hBt : Below w.heap.size w w := .refl _ _
  go_enter Try.func6, Try.ntmps6
  go_wp2_with fail
  go_loopw [5, 6, 7] (fun u5 u6 u7 wr => ∃ (i : Nat) (s : ByteArray) (want : List Int), i ≤ 8 ∧ i ≤ len0 ∧ u5 = .string s ∧ u7 = .int .i64 i ∧ wr.ownsRow w.heap.size 3 1 u6 want.length (want.map (Value.int .i64)) ∧ want.length = i ∧ s.size ≤ i * 70 ∧ Tr.Holds s want ∧ Below w.heap.size w wr) (fun _ _ u7 _ => 8 - (intOf u7).toNat)
  case atStart => exact ⟨0, ⟨#[]⟩, [], by omega, by omega, rfl, rfl, World.ownsRow_nil _ _ _ _, rfl, by decide, Tr.holds_nil, hBt⟩
  case round =>
    obtain ⟨i, s, want, hi8, hil, rfl, rfl, hrow, hwl, hss, hH, hB⟩ := hrel
    have HROW := Lib.hid hrow
    have HH := Lib.hid hH
    have HB := Lib.hid hB
    have HW := Lib.hid hwl
    have hszw := hB.size
    by_cases hlt : i < len0 ∧ i < 8
    · obtain ⟨hlt, hlt8⟩ := hlt
      have hltI : (i : Int) < (len0 : Int) := by omega
      have hlt8I : (i : Int) < 8 := by omega
      obtain ⟨blk, off, ha, hcell⟩ : ∃ blk off, a0 = some ⟨blk, off, none⟩ ∧ w.cell? ⟨blk, off + i, none⟩ = some (.int .i64 (zs.getD i 0)) := by
        rcases HS0.out.2 with h | ⟨blk, off, h, hc⟩
        · omega
        · exact ⟨blk, off, h, hc i hlt⟩
      obtain ⟨x, hx⟩ : ∃ x, zs.getD i 0 = x := ⟨_, rfl⟩
      rw [hx] at hcell
      have hxm : x ∈ zs := by rw [← hx, List.getD_eq_getElem?_getD, List.getElem?_eq_getElem (by rw [HS0.out.1]; exact hlt)]; exact List.getElem_mem _
      obtain ⟨x0, x1⟩ := hb0.out x hxm
      obtain ⟨k0, k1⟩ := Nu.limit_lt x
      obtain ⟨k, hk⟩ : ∃ k, Nu.limit x = k := ⟨_, rfl⟩
      rw [hk] at k0 k1
      have HL := Lib.hid (limit_any x ⟨x0, x1⟩)
      rw [hk] at HL
      have hkI : Nu.I k := by unfold Nu.I; omega
      have HD := Lib.hid (refDecimal_any k hkI)
      have HDL : Hid ((strOfNums (Nu.decV k)).size ≤ 66) := by show _ ≤ _; rw [strOfNums_size]; exact Nu.decV_len hkI
      have hcw := cell_later HB.out hcell
      have K0 := Lib.hid k0
      have K1 := Lib.hid k1
      clear hrow hH hB hx hxm hk hkI x0 x1 k0 k1 hcell hwl hBt
      subst ha
      go_upto_if 35 with (first
        | (go_at_call 13; refine (HL.out _).mono ?_; rintro e w9 ⟨rfl, rfl⟩)
        | (at_builtin; refine wpList_append_own _ rfl _ _ 40 rfl w.heap.size 3 i0 (.int .i64 0) 1 8 Try.underlying40 hi hz0 hz1 hz2 rfl (by decide) _ want.length (want.map (Value.int .i64)) rfl (HROW.out.alloc _) ⟨wr.heap.size, 0, none⟩ 1 1 [.int .i64 k] rfl rfl (cell_one_new _ _ _) (by simp [Value.oneCell']) (by have := HW.out; unfold maxLen; omega) (by have := HW.out; omega) (by have := HW.out; simp; omega) ?_; intro v' w3 hown' hgrow _; have HO := Lib.hid hown'; have B3 := Lib.hid ((HB.out.alloc hszw _).grown hgrow (by simp; omega) (fun j ej => (HROW.out.lt j ej).1)); clear hown' hgrow))
      clear hcw
      have hBt : Below w3.heap.size w3 w3 := .refl _ _
      go_cut [9] (fun s9 wx => ∃ c, s9 = .int .u8 c ∧ Tk.blank c = true ∧ 0 ≤ c ∧ c ≤ 255 ∧ Below w3.heap.size w3 wx)
      case first =>
        by_cases hj : i < len1
        · have hjI : (i : Int) < (len1 : Int) := by omega
          obtain ⟨bk, of, rfl, hcell⟩ : ∃ blk off, a1 = some ⟨blk, off, none⟩ ∧ w.cell? ⟨blk, off + i, none⟩ = some (.int .i64 (ys.getD i 0)) := by
            rcases HS1.out.2 with h | ⟨blk, off, h, hc⟩
            · omega
            · exact ⟨blk, off, h, hc i hj⟩
          obtain ⟨y, hy⟩ : ∃ y, ys.getD i 0 = y := ⟨_, rfl⟩
          rw [hy] at hcell
          have hym : y ∈ ys := by rw [← hy, List.getD_eq_getElem?_getD, List.getElem?_eq_getElem (by rw [HS1.out.1]; exact hj)]; exact List.getElem_mem _
          obtain ⟨y0, y1⟩ := hb1.out y hym
          obtain ⟨j, hj6, hje⟩ := Tr.around6 y
          have HJ := aroundOf y 6 y0 y1 (by omega) (by omega)
          rw [hje] at HJ
          have HJ' := Lib.hid HJ
          have hcy := cell_later B3.out hcell
          have hcz := cell_later (box1 w3 (.cells #[.int .u8 9, .int .u8 10, .int .u8 11, .int .u8 12, .int .u8 13, .int .u8 32] 5)) hcy
          clear hy hym y0 y1 hje HJ hcell
          rcases Tr.six hj6 with rfl | rfl | rfl | rfl | rfl | rfl
          all_goals
            go_wp2_with (go_at_call 29; refine (HJ'.out _).mono ?_; rintro e w9 ⟨rfl, rfl⟩)
            go_meet
            case rel => exact ⟨_, rfl, by decide, by omega, by omega, by go_grown⟩
        · have hjI : ¬ (i : Int) < (len1 : Int) := by omega
          go_wp2
          go_meet
          case rel => exact ⟨_, rfl, by decide, by omega, by omega, hBt⟩
      case rest =>
        obtain ⟨c, rfl, hcb, c0, c1, hBx⟩ := hcut
        have HO4 := Lib.hid (Tr.row_below HO.out hBx)
        have B4 := Lib.hid (B3.out.trans (hBx.mono B3.out.size))
        have HH2 := Lib.hid (Tr.holds_snoc HH.out K0.out K1.out hcb c0 c1)
        have hc1s : (strOfNums [c]).size = 1 := by rw [strOfNums_size]; rfl
        obtain ⟨C, hC⟩ : ∃ C, strOfNums [c] = C := ⟨_, rfl⟩
        have HCL : Hid (∀ (W w9 : World) (b : Nat), W.heap.size = b → Below (W.alloc (.cells #[.int .u8 c] 5)).heap.size (W.alloc (.cells #[.int .u8 c] 5)) w9 → (convert 45 9 (.slice (some ⟨b, 0, none⟩) 1 1)).run Try.prog w9 = .ok (.string C) w9) := fun W w9 b h1 h2 => by have := Tr.conv_later c h1 h2; rw [hC] at this; exact this
        have HCV : Hid (∀ W : World, (convert 45 9 (.slice (some ⟨W.heap.size, 0, none⟩) 1 1)).run Try.prog (W.alloc (.cells #[.int .u8 c] 5)) = .ok (.string C) (W.alloc (.cells #[.int .u8 c] 5))) := fun W => by have := Nu.conv_one W c; rw [hC] at this; exact this
        rw [hC] at hc1s HH2
        generalize strOfNums (Nu.decV k) = D at HD HDL HH2
        have hDL := HDL.out
        have hL1 : s.size + D.size ≤ 9223372036854775807 := by omega
        have hL2 : (s ++ D).size + C.size ≤ 9223372036854775807 := by rw [ByteArray.size_append]; omega
        have hL3 : s.size + D.size + C.size ≤ 9223372036854775807 := by omega
        have hS2 : Hid ((s ++ D ++ C).size ≤ (i + 1) * 70) := by show _ ≤ _; rw [ByteArray.size_append, ByteArray.size_append]; omega
        have hcv0 := HCL.out wc (wc.alloc (.cells #[.int .u8 c] 5)).drew wc.heap.size rfl ⟨rfl, rfl, rfl, Nat.le_refl _, fun _ _ => rfl⟩
        clear hBx hBt hC hDL hc1s hcb c0 c1
        have hBt : Below wc.heap.size wc wc := .refl _ _
        go_wp2_with fail
        go_region_with (go_at_call 30; refine (HD.out _).mono ?_; rintro e w9 ⟨rfl, hb9⟩; have hcv1 := HCV.out w9; (try have hcv2 := HCL.out wc w9 wc.heap.size rfl (Tr.of_drew hb9)); have hbx : Below wc.heap.size wc w9 := (by first | exact Tr.of_drew hb9 | exact (box1 wc _).trans ((Tr.of_drew hb9).mono (by simp))))
        all_goals
          go_wp2
          go_roundw
          case rel =>
            first
              | exact ⟨i + 1, s ++ D ++ C, want ++ [k], by omega, by omega, rfl, by go_num, by have := row_below HO4.out hbx; simpa using this, by simp [HW.out], hS2.out, HH2.out, B4.out.trans (Below.mono hbx B4.out.size)⟩
              | exact ⟨i + 1, s ++ D ++ C, want ++ [k], by omega, by omega, rfl, by go_num, by have := row_below HO4.out (hbx.alloc hbx.size (.cells #[.int .u8 c] 5)); simpa using this, by simp [HW.out], hS2.out, HH2.out, B4.out.trans (Below.mono (hbx.alloc hbx.size (.cells #[.int .u8 c] 5)) B4.out.size)⟩
          case measure => simp [intOf]; omega
    · have hwlt : want.length ≤ 9223372036854775807 := by omega
      have hss2 : Hid (s.size ≤ 1000) := by show _ ≤ _; omega
      have hHA := Lib.hid (Tr.holds_all hH)
      have hnot : i = len0 ∨ i = 8 := by omega
      have hfin : ∀ W, Below W.heap.size W W := fun W => .refl _ _
      clear hB hH
      obtain ⟨adw, capw, hvw, how, hlew⟩ := ownK_row rfl HROW.out
      subst hvw
      have HOW := Lib.hid how
      have HWL := Lib.hid hwlt
      clear hrow how hwlt hwl hss hfin hszw
      have go1 : ∀ (_ : (decide ((i : Int) < (len0 : Int)) = false ∧ ¬ (i : Int) < (len0 : Int)) ∨ ((decide ((i : Int) < (len0 : Int)) = true ∧ (i : Int) < (len0 : Int)) ∧ decide ((i : Int) < 8) = false ∧ ¬ (i : Int) < 8)), True := fun _ => trivial
      have hcs : (decide ((i : Int) < (len0 : Int)) = false ∧ ¬ (i : Int) < (len0 : Int)) ∨ ((decide ((i : Int) < (len0 : Int)) = true ∧ (i : Int) < (len0 : Int)) ∧ decide ((i : Int) < 8) = false ∧ ¬ (i : Int) < 8) := by
        by_cases h : (i : Int) < (len0 : Int)
        · exact .inr ⟨⟨decide_eq_true h, h⟩, decide_eq_false (by omega), by omega⟩
        · exact .inl ⟨decide_eq_false h, h⟩
      clear go1 hlt hnot
      rcases hcs with ⟨kd, kn⟩ | ⟨⟨kd, kn⟩, kd2, kn2⟩
      all_goals
        go_wp2_with fail
        refine (all_any s 4611686018427387903 (by omega) (by omega) hss2.out _).mono ?_
        rintro e w2 ⟨ad, cap, acc, u, er, rfl, hv, ho, hle, hln, hb2⟩
        rw [hHA.out] at hv
        injection hv with e1 e2
        injection e2 with e2 e3
        subst e1 e2 e3
        have HO2 := Lib.hid ho
        have HOW2 := Lib.hid (HOW.out.later hb2)
        have HB2 := Lib.hid (HB.out.trans (hb2.mono HB.out.size))
        clear ho hle hln hb2
        go_wp2_with fail
        refine (Sm.same_self _ _ _ _ _ _ want _ HWL.out HO2.out.sl HOW2.out.sl).mono ?_
        rintro e w3 ⟨rfl, hb3⟩
        have HB3 := Lib.hid (HB2.out.trans (hb3.mono HB2.out.size))
        clear hb3
        go_wp2_with fail
        refine (lives5_any _).mono ?_
        rintro e w4 ⟨rfl, hb4⟩
        have HB4 := Lib.hid (HB3.out.trans (hb4.mono HB3.out.size))
        clear hb4
        go_wp2
        go_ret
        exact ⟨rfl, HB4.out⟩
end Go.Proofs.Yteonfgphihacgaa

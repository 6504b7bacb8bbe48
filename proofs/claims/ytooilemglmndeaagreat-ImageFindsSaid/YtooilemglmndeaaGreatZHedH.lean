/- The head that a text begins with, over any memory. Condition: the text is short. -/
import Derived.Test.YtooilemglmndeaaGreatZgAE
import Derived.Test.YtooilemglmndeaaGreatZgAA
import Derived.Laws.EntriesVeiled
namespace Go.Proofs.YtooilemglmndeaaGreat
set_option linter.unusedVariables false
open Go.RowKit
set_option linter.unusedVariables false

/-- what Parse hands back -/
def hcnt (r : Hd.H × Int × Int) : Int := if r.2.2 = 0 then r.2.1 else 0
def HParR (s : ByteArray) (l : Hd.L) (w : World) (e : Ending) (w' : World) : Prop :=
  e = .returned (.tuple #[agH (Hd.parseV l (bytesOf s)).1, .int .i64 (hcnt (Hd.parseV l (bytesOf s))), .int .i64 (Hd.parseV l (bytesOf s)).2.2]) ∧ Below w.heap.size w w'
theorem hpar_fin {s : ByteArray} {l : Hd.L} {w w' : World} {h : Hd.H} {u er n : Int} {val : Value} (hv : Hd.parseV l (bytesOf s) = (h, u, er)) (hn : n = if er = 0 then u else 0) (hval : val = agH h) (hB : Below w.heap.size w w') :
    HParR s l w (.returned (.tuple #[val, .int .i64 n, .int .i64 er])) w' := by
  unfold HParR hcnt
  rw [hv, hn, hval]
  exact ⟨rfl, hB⟩
theorem Sep.bel2 {b n : Nat} {B : Nat} {a w w' : World} (h : Below B a w) (hs : Sep (two b n) w w') (hB : B ≤ w.heap.size) (h1 : B ≤ b) (h2 : B ≤ n) : Below B a w' :=
  h.trans ⟨hs.os, hs.tape, hs.output, hs.size, fun k hk => hs.block k (Nat.lt_of_lt_of_le hk hB) (fun e => e.elim (fun e => by omega) (fun e => by omega))⟩
theorem two_ne {b n k : Nat} (h1 : k ≠ b) (h2 : k ≠ n) : ¬ two b n k := fun e => e.elim h1 h2
set_option maxRecDepth 100000 in
set_option maxHeartbeats 4000000 in
theorem hparse_any (s : ByteArray) (hs : s.size ≤ 100000) (a b c : Int) (w : World) :
    Calls Tryz.prog 62 #[.string s, .agg #[.int .i64 a, .int .i64 b, .int .i64 c]] w (HParR s (Hd.limits a b c) w) := by
  have HL := Lib.hid (Hd.limits_ok a b c)
  go_enter Tryz.func62, Tryz.ntmps62
  go_wp2_with fail
  refine (hnew_any a b c _).mono ?_
  rintro e w1 ⟨k, rfl, hk, hX, hB⟩
  obtain ⟨W, hW⟩ : ∃ W, w.alloc (Obj.cells #[Value.int IntKind.i64 a, Value.int IntKind.i64 b, Value.int IntKind.i64 c] 24) = W := ⟨_, rfl⟩
  have hBW : Below w.heap.size w W := by rw [← hW]; exact (Below.refl _ w).alloc (Nat.le_refl _) _
  have hWz : W.heap.size = w.heap.size + 1 := by rw [← hW]; simp
  rw [hW] at hk hB
  have hH0 := Hb.new W 62 Hd.none
  have HH1 := Lib.hid (hH0.later hB)
  have hB1 : Below w.heap.size w w1 := (hBW.alloc hBW.size (.cells #[.int .i64 0, .int .i64 0, .int .i64 0, .int .i64 0] 62)).trans (hB.mono (by simp; omega))
  obtain ⟨rb, hrb⟩ : ∃ rb, w.heap.size + 1 = rb := ⟨_, rfl⟩
  have hrbk : rb < k := by have : W.heap.size < k := by (have h := hk; simp at h; omega)
                           omega
  have hwk : w.heap.size ≤ k := by omega
  rw [hWz, hrb] at HH1
  have HX1 := Lib.hid hX
  have HB1 := Lib.hid hB1
  obtain ⟨L, hL⟩ : ∃ L, Hd.limits a b c = L := ⟨_, rfl⟩
  rw [hL] at HL HX1
  have HLE := Lib.hid hL
  have HK := Lib.hid hrbk
  have HWK := Lib.hid hwk
  have HWR := Lib.hid (show w.heap.size ≤ rb by omega)
  clear hW hBW hWz hk hB hH0 hB1 hX hL hrbk hwk
  simp only [hrb]
  clear hrb
  go_wp2_with fail
  go_loopw [15] (fun u15 wr => ∃ (i n : Nat) (t : Hd.S), i ≤ s.size ∧ u15 = .int .i64 i ∧ HdX 0 wr k n L t ∧ t.p ≤ 3 ∧ w.heap.size ≤ n ∧ rb ≠ n ∧ Hb wr rb 62 Hd.none ∧ Below w.heap.size w wr ∧ Hd.parseV L (bytesOf s) = Hd.parseF L t i ((bytesOf s).drop i)) (fun u15 _ => s.size - (intOf u15).toNat)
  case atStart => exact ⟨0, k, Hd.new, Nat.zero_le _, rfl, HX1.out, by decide, HWK.out, by have := HK.out; omega, HH1.out, HB1.out, rfl⟩
  case round =>
    obtain ⟨i, n, t, hi1, rfl, hX, hp, hwn, hrn, hH, hB, hV⟩ := hrel
    have hG := hX.1
    have HX := Lib.hid hX
    have HH := Lib.hid hH
    have HB := Lib.hid hB
    have hrk : rb ≠ k := by have := HK.out; omega
    have hwk := HWK.out
    have hwz := HB.out.size
    by_cases hlt : i < s.size
    · rw [bytesOf_drop s i hlt, Hd.parse_cons i _ _ hp] at hV
      have c0 : (0 : Int) ≤ (s[i].toNat : Int) := by omega
      have c1 : (s[i].toNat : Int) ≤ 255 := by have := s[i].toNat_lt; omega
      obtain ⟨t', ht'⟩ : ∃ t', Hd.put L t (s[i].toNat : Int) = t' := ⟨_, rfl⟩
      have HP := hput_any HL.out hG (s[i].toNat : Int) c0 c1 wr k n (by rw [Hd.st_open hp]; exact hX)
      have hG' := Hd.good_put HL.out hG (s[i].toNat : Int)
      rw [ht'] at HP hG' hV
      have hp5 := hG'.1
      have HV : Hid (Hd.parseV L (bytesOf s) = Hd.parseF L t' (i + 1) ((bytesOf s).drop (i + 1))) := hV
      by_cases h4 : t'.p = 4
      · have HV2 : Hid (Hd.parseV L (bytesOf s) = (Hd.hd t', ((i + 1 : Nat) : Int), 0)) := by show _ = _; rw [HV.out, Hd.parse_over _ _ h4]
        have hst : Hd.st t' = 1 := by unfold Hd.st; rw [if_pos h4]
        have hval : Hd.val t' = (Hd.hd t', 0) := by unfold Hd.val; rw [if_pos h4]
        have HPC : Hid (Calls Tryz.prog 101 #[.pointer (some ⟨k, 0, none⟩), .int .u8 (s[i].toNat : Int)] wr fun e w' => ∃ n', e = .returned (.int .i64 1) ∧ HdX (Hd.st t') w' k n' L t' ∧ Sep (two k n) wr w' ∧ (n' = n ∨ wr.heap.size ≤ n')) := HP.mono fun e w' ⟨n', a1, a2⟩ => ⟨n', by rw [a1, hst], a2⟩
        have HHC : Hid (∀ W n', HdX (Hd.st t') W k n' L t' → Calls Tryz.prog 102 #[.pointer (some ⟨k, 0, none⟩)] W fun e w' => e = .returned (.tuple #[agH (Hd.hd t'), .int .i64 0]) ∧ Below W.heap.size W w') := fun W n' h => (head_s h).mono fun e w' hh => ⟨by rw [hh.1, hval], hh.2⟩
        clear HP hG' hV hX hB hH hval hst ht' hG HV h4
        generalize Hd.hd t' = H at HV2 HHC
        unfold agH at HHC
        go_wp2_with fail
        refine HPC.out.mono ?_
        rintro e w2 ⟨n', rfl, hX2, hs2, hn2⟩
        have hB2 := Sep.bel2 HB.out hs2 hwz hwk hwn
        have hH2 := HH.out.sep hs2 (two_ne hrk hrn)
        have HX2 := Lib.hid hX2
        have HB2 := Lib.hid hB2
        have HH2 := Lib.hid hH2
        clear hX2 hs2 hB2 hH2
        go_wp2_with fail
        refine (HHC.out _ _ HX2.out).mono ?_
        rintro e w3 ⟨rfl, hb3⟩
        have HH3 := Lib.hid (HH2.out.later hb3)
        have HB3 := Lib.hid (HB2.out.trans (hb3.mono HB2.out.size))
        obtain ⟨d0, d1, d2, d3⟩ := HH3.out.cells
        obtain ⟨f0, f1, f2, f3⟩ := HH3.out.fr
        have hlt3 := HH3.out.lt
        have hne3 : ¬ rb = w3.heap.size := Nat.ne_of_lt hlt3
        have hii : (i : Int) + 1 ≤ 9223372036854775807 := by omega
        have hwrb := HWR.out
        have hwz3 := HB3.out.size
        clear hb3
        go_wp2
        refine bodyPost_ret (Hj.ret3 Tryz.results62 _ _ _ _ rfl (load_hd ((HH3.out.put H).alloc _))) rfl ?_
        rw [HLE.out]; exact hpar_fin HV2.out (by rw [if_pos rfl]; go_num) rfl (Below.alloc ((((HB3.out.setCell hwrb _).setCell hwrb _).setCell hwrb _).setCell hwrb _) (by simp only [World.size_setCell]; exact hwz3) _)
      by_cases h5 : t'.p = 5
      · have HV2 : Hid (Hd.parseV L (bytesOf s) = (Hd.none, ((i + 1 : Nat) : Int), t'.e)) := by show _ = _; rw [HV.out, Hd.parse_wrong _ _ h5]
        have hst : Hd.st t' = 2 := by unfold Hd.st; rw [if_neg h4, if_pos h5]
        have hval : Hd.val t' = (Hd.none, t'.e) := by unfold Hd.val; rw [if_neg h4, if_pos h5]
        have hez := hG'.2.2.2.2.2.2.1 h5
        have he0 : (t'.e != 0) = true := by simp; omega
        have hen : ¬ t'.e = 0 := by omega
        have HPC : Hid (Calls Tryz.prog 101 #[.pointer (some ⟨k, 0, none⟩), .int .u8 (s[i].toNat : Int)] wr fun e w' => ∃ n', e = .returned (.int .i64 2) ∧ HdX (Hd.st t') w' k n' L t' ∧ Sep (two k n) wr w' ∧ (n' = n ∨ wr.heap.size ≤ n')) := HP.mono fun e w' ⟨n', a1, a2⟩ => ⟨n', by rw [a1, hst], a2⟩
        have HHC : Hid (∀ W n', HdX (Hd.st t') W k n' L t' → Calls Tryz.prog 102 #[.pointer (some ⟨k, 0, none⟩)] W fun e w' => e = .returned (.tuple #[agH Hd.none, .int .i64 t'.e]) ∧ Below W.heap.size W w') := fun W n' h => (head_s h).mono fun e w' hh => ⟨by rw [hh.1, hval], hh.2⟩
        clear HP hG' hV hX hB hH hval hst ht' hG HV h4 hez
        obtain ⟨er, her⟩ : ∃ er, t'.e = er := ⟨_, rfl⟩
        rw [her] at HV2 HHC he0 hen
        have HEN := Lib.hid hen
        clear her hen
        unfold agH Hd.none at HHC
        go_wp2_with fail
        refine HPC.out.mono ?_
        rintro e w2 ⟨n', rfl, hX2, hs2, hn2⟩
        have hB2 := Sep.bel2 HB.out hs2 hwz hwk hwn
        have hH2 := HH.out.sep hs2 (two_ne hrk hrn)
        have HX2 := Lib.hid hX2
        have HB2 := Lib.hid hB2
        have HH2 := Lib.hid hH2
        clear hX2 hs2 hB2 hH2
        go_wp2_with fail
        refine (HHC.out _ _ HX2.out).mono ?_
        rintro e w3 ⟨rfl, hb3⟩
        have HH3 := Lib.hid (HH2.out.later hb3)
        have HB3 := Lib.hid (HB2.out.trans (hb3.mono HB2.out.size))
        obtain ⟨d0, d1, d2, d3⟩ := HH3.out.cells
        obtain ⟨f0, f1, f2, f3⟩ := HH3.out.fr
        have hlt3 := HH3.out.lt
        have hne3 : ¬ rb = w3.heap.size := Nat.ne_of_lt hlt3
        have hwrb := HWR.out
        have hwz3 := HB3.out.size
        clear hb3
        go_wp2
        refine bodyPost_ret (Hj.ret3 Tryz.results62 _ _ _ _ rfl (load_hd ((HH3.out.put Hd.none).alloc _))) rfl ?_
        rw [HLE.out]; exact hpar_fin HV2.out (if_neg HEN.out).symm rfl (Below.alloc ((((HB3.out.setCell hwrb _).setCell hwrb _).setCell hwrb _).setCell hwrb _) (by simp only [World.size_setCell]; exact hwz3) _)
      · have HPC : Hid (Calls Tryz.prog 101 #[.pointer (some ⟨k, 0, none⟩), .int .u8 (s[i].toNat : Int)] wr fun e w' => ∃ n', e = .returned (.int .i64 0) ∧ HdX 0 w' k n' L t' ∧ Sep (two k n) wr w' ∧ (n' = n ∨ wr.heap.size ≤ n')) := HP.mono fun e w' ⟨n', a1, a2⟩ => ⟨n', by rw [a1, Hd.st_open (by omega)], by rw [Hd.st_open (by omega)] at a2; exact a2⟩
        have hp3 : t'.p ≤ 3 := by omega
        clear HP hG' hV hX hB hH ht' hG h4 h5
        go_wp2_with (go_at_call 101; refine HPC.out.mono ?_; rintro e w2 ⟨n', rfl, hX2, hs2, hn2⟩; have HS2 := Lib.hid hs2; have HX2 := Lib.hid hX2; have HN2 := Lib.hid hn2; clear hX2 hs2 hn2)
        go_roundw
        case rel =>
          have hlt3 := HH.out.lt
          exact ⟨i + 1, n', t', by omega, by go_num, HX2.out, hp3, HN2.out.elim (fun e => by omega) (fun e => by omega), HN2.out.elim (fun e => by omega) (fun e => by omega), HH.out.sep HS2.out (two_ne hrk hrn), Sep.bel2 HB.out HS2.out hwz hwk hwn, HV.out⟩
        case measure => simp [intOf]; omega
    · have HV2 : Hid (Hd.parseV L (bytesOf s) = (Hd.none, (i : Int), 6)) := by show _ = _; rw [hV, List.drop_eq_nil_of_le (by rw [bytesOf_length]; omega), Hd.parse_nil _ hp]
      obtain ⟨d0, d1, d2, d3⟩ := hH.cells
      obtain ⟨f0, f1, f2, f3⟩ := hH.fr
      have hwrb := HWR.out
      clear hV hX hB hH hG
      go_wp2
      refine bodyPost_ret (Hj.ret3 Tryz.results62 _ _ _ _ rfl (load_hd (HH.out.put Hd.none))) rfl ?_
      rw [HLE.out]; exact hpar_fin HV2.out (if_neg (by decide)).symm rfl ((((HB.out.setCell hwrb _).setCell hwrb _).setCell hwrb _).setCell hwrb _)
end Go.Proofs.YtooilemglmndeaaGreat

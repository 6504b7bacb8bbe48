/- A raster of bytes written by the code, whichever pixels; bytes appended. Condition: the head may be, at most 80 by 8. -/
import Derived.Test.YtflpocnbmpdhiaaZRwWs
import Derived.Test.YtflpocnbmpdhiaaZgAH
import Derived.Test.YtflpocnbmpdhiaaZPlWx
import Derived.Test.YtflpocnbmpdhiaaProg
import Derived.Test.YtflpocnbmpdhiaaZgAA
import Derived.Laws.BytesArg
import Derived.WalkSpells
import Derived.WalkLawsBesides
import Derived.Handy
import Derived.Lib.Hide
namespace Go.Proofs.Ytflpocnbmpdhiaa
open Go.RowKit
set_option linter.unusedVariables false
theorem rwWrite_any (bk of : Nat) (n cap : Nat) (l : List Int) (G : Hd.H) (hf : Hj.Fit G) (hm : Rw.May G) (gw gh : Nat) (hgw : G.w = (gw : Int)) (hgh : G.h = (gh : Int)) (hw80 : gw ≤ 80) (hh4 : gh ≤ 8) (hL : l.length = gw * gh) (hn : n = gw * gh) (hnc : n ≤ cap) (hc : cap ≤ 9223372036854775807) (hU : ∀ p ∈ l, Pq.Px.U p) (w : World) (hs : SlK .u64 w (some ⟨bk, of, none⟩) n l) :
    Calls Try.prog 39 #[.slice (some ⟨bk, of, none⟩) n cap, agH G] w (RwwR (Rw.writeT G l) w) := by
  have hn9 : n ≤ 640 := by rw [hn]; exact Nat.mul_le_mul hw80 hh4
  by_cases h : Pl.fitAll G l = true
  · have hl := fits_of_all hU h
    rw [Rw.writeT_good hm hl hgw hgh hL]
    exact rwWrite_good bk of n cap l G hf hm gw gh hgw hgh hw80 hh4 hL hn hnc hc hl w hs
  · have e : Rw.writeT G l = ([], 1) := by unfold Rw.writeT; rw [if_neg h]
    rw [e]
    exact rwWrite_no (some ⟨bk, of, none⟩) n cap l G hf hm (by omega) (by rw [hgw, hgh, hn]; simp) hU (by simpa using h) w hs
theorem rws_app {w : World} {base k : Nat} {v : Value} {l : List Int} (hr : w.ownsRow base 5 1 v k (l.map (Value.int .u8))) (hk : l.length = k) (h1 : 1 ≤ k) : ∃ g c, v = .slice (some ⟨g, 0, none⟩) k c ∧ SlK .u8 w (some ⟨g, 0, none⟩) k l ∧ k ≤ c ∧ c ≤ 9223372036854775807 := by
  obtain ⟨a, c, e, hs⟩ := byt_row (show w.ownsRow base 5 1 v k (byts l) from hr) hk
  rcases hr.2 with ⟨hv, h0⟩ | ⟨g, cap, cur, hv, k1, k2, k3, k4, k5, k6⟩
  · omega
  · rw [e] at hv; injection hv with e1 e2 e3
    subst e1; subst e3
    exact ⟨g, c, e, hs, k3, by unfold maxLen at k4; omega⟩
theorem rws_cut {w : World} {a : Option Addr} {n m cap : Nat} {zs : List Int} (h : Bt.Bs w a n cap zs) (hm : m ≤ n) : Bt.Bs w a m cap (zs.take m) := by
  obtain ⟨⟨h1, h2⟩, h3, h4, h5⟩ := h
  refine ⟨⟨by rw [List.length_take, h1]; omega, ?_⟩, by omega, h4, fun z hz => h5 z (List.mem_of_mem_take hz)⟩
  rcases h2 with h2 | ⟨b, o, e, hc⟩
  · left; omega
  · refine .inr ⟨b, o, e, fun i hi => ?_⟩
    rw [hc i (by omega), List.getD_eq_getElem?_getD, List.getD_eq_getElem?_getD, List.getElem?_take_of_lt hi]
theorem rws_wfP {n : Int} (h : (Lit.int .u64 n).wf = true) : Pq.Px.U n := by
  simp [Lit.wf, IntKind.min, IntKind.max, IntKind.bits, IntKind.signed] at h; unfold Pq.Px.U; omega
theorem rws_set {w : World} {pb N k : Nat} {l : List Int} {p : Int} (h : SlK .u64 w (some ⟨pb, 0, none⟩) N l) (hk : k < N) : SlK .u64 (w.setCell ⟨pb, k, none⟩ (.int .u64 p)) (some ⟨pb, 0, none⟩) N (l.set k p) := by
  obtain ⟨h1, h2⟩ := h
  refine ⟨by rw [List.length_set]; exact h1, .inr ⟨pb, 0, rfl, fun i hi => ?_⟩⟩
  rcases h2 with h2 | ⟨b, o, e, hc⟩
  · omega
  · cases e
    have hci := hc i hi
    rw [Nat.zero_add] at hci
    by_cases he : i = k
    · subst he
      have e1 : (w.setCell ⟨pb, i, none⟩ (.int .u64 p)).cell? ⟨pb, i, none⟩ = some (.int .u64 p) := World.cell?_setCell_same' _ _ _ (by rw [hci]; rfl)
      rw [Nat.zero_add, e1, List.getD_eq_getElem?_getD, List.getElem?_set_self (by omega)]
      rfl
    · rw [Nat.zero_add, List.getD_eq_getElem?_getD, List.getElem?_set_ne (fun e => he e.symm), ← List.getD_eq_getElem?_getD, ← hci]
      have hne : (⟨pb, k, none⟩ : Addr) ≠ ⟨pb, i, none⟩ := fun e => he (Addr.mk.inj e).2.1.symm
      rw [World.cell?_setCell_other _ _ _ _ hne]
/-- so many bytes of a good raster leave as many as it has less -/
theorem Rw.read_cut {G : Hd.H} (hm : Rw.May G) {l : List Int} (hl : Pl.Fits G l) {W H : Nat} (hW : G.w = (W : Int)) (hH : G.h = (H : Int)) (hL : l.length = W * H) {k : Nat} (hk : k < (Rw.wRows G l W H).length) : Rw.readV G ((Rw.wRows G l W H).take k) = ([], 6) := by
  have hlen := Rw.wRows_len hm hl hW hL H (Nat.le_refl _)
  have hsz : Hj.size G = ((Rw.wRows G l W H).length : Int) := by
    rw [Rw.size_eq hm, hH, hlen, Int.natCast_mul]
  rw [Rw.readV_ref hm]
  have e : Rw.badV G ((Rw.wRows G l W H).take k) = 0 := by
    rw [Rw.badV_eq, hsz]
    show Rw.badN G ((Rw.wRows G l W H).take k) (Rw.wRows G l W H).length = 0
    rw [← Rw.bad_none hm hl hL k (by omega)]
    unfold Rw.badN
    rw [List.take_of_length_le (show ((Rw.wRows G l W H).take k).length ≤ (Rw.wRows G l W H).length by rw [List.length_take]; omega)]
  unfold Rw.refV
  rw [e, if_neg (by omega), if_pos (by rw [hsz, List.length_take]; omega)]
end Go.Proofs.Ytflpocnbmpdhiaa

/- A slice of bytes as a text, over any memory. No condition. -/
namespace Go.Proofs.Ytflpocnbmpdhiaa
open Go.RowKit
set_option linter.unusedVariables false
theorem Cv.str_append (xs ys : List Int) : strOfNums (xs ++ ys) = strOfNums xs ++ strOfNums ys := by
  apply ByteArray.ext
  simp [strOfNums]
/-- a slice of bytes, as a text -/
theorem Cv.conv_slk {W : World} {a : Option Addr} {len cap : Nat} {zs : List Int} (h : SlK .u8 W a len zs) : (convert 33 9 (.slice a len cap)).run Try.prog W = .ok (.string (strOfNums zs)) W := by
  obtain ⟨h1, h2⟩ := h
  rcases h2 with rfl | ⟨blk, off, rfl, hc⟩
  · obtain rfl : zs = [] := List.eq_nil_of_length_eq_zero h1
    rw [run_convert_bytes_string W _ _ _ a 0 cap Try.underlying33 Try.underlying5 Try.underlying9]
    rcases a with _ | a
    · simp [Conv.bytesToString]; rfl
    · rw [run_bytesToString W a 0 cap [] (by simpa using run_loadCells_list (P := Try.prog) W a [] (fun j u hj => by simp at hj))]; rfl
  · exact run_convert_bytes_arg (P := Try.prog) W _ _ Try.underlying33 Try.underlying5 blk off len cap zs h1 hc _ Try.underlying9
end Go.Proofs.Ytflpocnbmpdhiaa

/- An automaton is made of a tree. Condition: a tree of at most 1000 nodes and words. -/
import Derived.Test.YtehmbnloplamaaaAuF
import Derived.Test.YtehmbnloplamaaaAuT
namespace Go.Proofs.Ytehmbnloplamaaa
open Go.RowKit Go.Shelf
attribute [local go_sem] Oper.semAt_some
set_option linter.unusedVariables false
open Tr Au
theorem Try.info_state : (Try.prog.info? 74).map (fun i => (i.zero, i.size, i.bytes)) = some (some (.agg #[.int .u64 0, .int .i64 0, .int .i64 0, .slice none 0 0, .slice none 0 0]), 5, 72) := by kernel_rfl
namespace Au
def f00 : Nat → Nd := fun _ => (0, 0, 0)
def r00 : Nat → Value := fun _ => .slice none 0 0
def TF (L : LL) : Nat → Nat → Nd
  | 0 => f00
  | i + 1 => takeF L (TF L i) i
def TX (L V : LL) : Nat → Nat → List Int
  | 0 => fun _ => []
  | i + 1 => upd (upd (TX L V i) (2 * i + 2) (wordsV L V i)) (2 * i + 1) (ints (kids L i))
theorem made_states (n : Nat) : (madeCells #[.int .u64 0, .int .i64 0, .int .i64 0, .slice none 0 0, .slice none 0 0] (n * 5)).toList = nds f00 r00 n := by
  apply List.ext_getElem?
  intro i
  by_cases hi : i < n * 5
  · obtain ⟨k, c, hk, hc, rfl⟩ : ∃ k c, k < n ∧ c < 5 ∧ i = k * 5 + c := ⟨i / 5, i % 5, by omega, by omega, by omega⟩
    rw [nds_get f00 r00 hk hc]
    have hs : k * 5 + c < (madeCells #[.int .u64 0, .int .i64 0, .int .i64 0, .slice none 0 0, .slice none 0 0] (n * 5)).size := by rw [size_madeCells]; exact hi
    rw [Array.getElem?_toList, Array.getElem?_eq_getElem hs]
    simp only [madeCells, Array.getElem_map, Array.getElem_range]
    have hm : (k * 5 + c) % 5 = c := by omega
    have hcs : c = 0 ∨ c = 1 ∨ c = 2 ∨ c = 3 ∨ c = 4 := by omega
    show some (#[Value.int .u64 0, .int .i64 0, .int .i64 0, .slice none 0 0, .slice none 0 0][(k * 5 + c) % 5]!) = _
    rw [hm]
    rcases hcs with rfl | rfl | rfl | rfl | rfl <;> rfl
  · rw [List.getElem?_eq_none (by rw [Array.length_toList, size_madeCells]; omega), List.getElem?_eq_none (by rw [nds_len]; omega)]
theorem TX_at (L V : LL) : ∀ i m, TX L V i m = if 1 ≤ m ∧ m < 2 * i + 1 then data L V m else []
  | 0, m => by rw [if_neg (by omega)]; rfl
  | i + 1, m => by
    show upd (upd (TX L V i) (2 * i + 2) (wordsV L V i)) (2 * i + 1) (ints (kids L i)) m = _
    by_cases e1 : m = 2 * i + 1
    · subst e1; rw [upd_at, if_pos (by omega), data_kids]; rfl
    · rw [upd_ne _ _ e1]
      by_cases e2 : m = 2 * i + 2
      · subst e2; rw [upd_at, if_pos (by omega), data_words]
      · rw [upd_ne _ _ e2, TX_at L V i m]
        by_cases e3 : 1 ≤ m ∧ m < 2 * i + 1
        · rw [if_pos e3, if_pos (by omega)]
        · rw [if_neg e3, if_neg (by omega)]
theorem num_zero {L : LL} (hI : Inv L) : num L 0 = 0 := by unfold num; rw [hI.root]; rfl
theorem TF_at {L : LL} (hI : Inv L) {j : Nat} (hj : j < L.length) : ∀ i, i ≤ L.length → TF L i j = (if parV L j < i then num L j else 0, if j < i then -1 else 0, if j < i then -1 else 0)
  | 0, _ => by
    show f00 j = _
    have hp := (parV_in L j).1
    rw [if_neg (show ¬ j < 0 by omega)]
    by_cases e : parV L j < (0 : Nat)
    · rw [if_pos e]
      by_cases h0 : j = 0
      · subst h0; rw [num_zero hI]; rfl
      · obtain ⟨u, hu, _⟩ := par_nat hI (by omega : 1 ≤ j) hj
        rw [hu] at e; omega
    · rw [if_neg e]; rfl
  | i + 1, hi => by
    have ih := TF_at hI hj i (by omega)
    have ihi : TF L (i + 1) j = takeF L (TF L i) i j := rfl
    rw [ihi]
    unfold takeF kidF
    rw [List.take_of_length_le (Nat.le_refl _)]
    have hm : j ∈ kids L i ↔ parV L j = (i : Int) := by
      rw [kids_mem]; unfold isKid; rw [decide_eq_true_iff]
      exact ⟨fun h => h.2, fun h => ⟨hj, h⟩⟩
    have hf : ∀ z, (upd (TF L i) i ((TF L i i).1, -1, -1) z) = if z = i then ((TF L i i).1, -1, -1) else TF L i z := fun z => rfl
    by_cases e1 : j = i
    · subst e1
      rw [hf, if_pos rfl, ih, if_pos (show j < j + 1 by omega)]
      by_cases e2 : parV L j = (j : Int)
      · rw [if_pos (hm.2 e2), if_pos (show parV L j < ((j + 1 : Nat) : Int) by omega)]
      · rw [if_neg (fun h => e2 (hm.1 h))]
        by_cases e3 : parV L j < (j : Int)
        · rw [if_pos e3, if_pos (show parV L j < ((j + 1 : Nat) : Int) by omega)]
        · rw [if_neg e3, if_neg (show ¬ parV L j < ((j + 1 : Nat) : Int) by omega)]
    · rw [hf, if_neg e1, ih]
      have hlt : ∀ (a b : Int), (if j < i + 1 then a else b) = if j < i then a else b := fun a b => by
        by_cases q : j < i
        · rw [if_pos q, if_pos (by omega)]
        · rw [if_neg q, if_neg (by omega)]
      rw [hlt]
      by_cases e2 : parV L j = (i : Int)
      · rw [if_pos (hm.2 e2), if_pos (show parV L j < ((i + 1 : Nat) : Int) by omega)]
      · rw [if_neg (fun h => e2 (hm.1 h))]
        by_cases e3 : parV L j < (i : Int)
        · rw [if_pos e3, if_pos (show parV L j < ((i + 1 : Nat) : Int) by omega)]
        · rw [if_neg e3, if_neg (show ¬ parV L j < ((i + 1 : Nat) : Int) by omega)]
theorem TF_all {L V : LL} (hI : Inv L) {j : Nat} (hj : j < L.length) : TF L L.length j = Gf L V [] j := by
  rw [TF_at hI hj _ (Nat.le_refl _), if_pos (by have := parV_in L j; omega), if_pos hj]
  rfl
theorem TX_all (L V : LL) {m : Nat} (h1 : 1 ≤ m) (h2 : m < 2 * L.length + 1) : TX L V L.length m = data L V m := by rw [TX_at, if_pos ⟨h1, h2⟩]
/-- new states lie there -/
theorem AuX.made {w W : World} {sb ab n : Nat} (L V : LL) (hB : w.heap.size ≤ sb) (hB2 : w.heap.size ≤ ab) (hn : n ≤ 1000) (h1 : W.heap[sb]? = some (.cells (madeCells #[.int .u64 0, .int .i64 0, .int .i64 0, .slice none 0 0, .slice none 0 0] (n * 5)) 74 (0, 0))) (h2 : W.heap[ab]? = some (.cells #[.slice (some ⟨sb, 0, none⟩) n n] 71 (0, 0))) :
    AuX W w.heap.size ab sb n (TF L 0) r00 (TX L V 0) := by
  refine ⟨hB2, h2, ⟨by rw [show TF L 0 = f00 from rfl, nds_len], .inr ⟨sb, n, _, rfl, hB, h1, Nat.le_refl _, by unfold maxLen; omega, by rw [size_madeCells], by rw [made_states, List.take_of_length_le (by rw [nds_len]; exact Nat.le_refl _)]; rfl⟩⟩, fun i _ _ => World.ownsRow_nil _ _ _ _, fun i j _ _ _ _ _ => .inl rfl⟩
end Au
theorem falls_end {w : World} {B ab sb : Nat} {rv : Nat → Value} {L V : LL} {pre rest : List Nat} {j : Nat} (h : AuX w B ab sb L.length (Gf L V pre) rv (data L V)) (hI : Iw L V) (ho : order L = pre ++ j :: rest) : Calls Try.prog 44 #[.pointer (some ⟨ab, 0, none⟩), .int .i64 (fallV L j)] w fun e w' => e = .returned (.int .i64 (linkV L V j)) ∧ Below w.heap.size w w' := by
  have hj := (mem_order hI.inv).1 (by rw [ho]; simp : j ∈ order L)
  have hk := deep_lt hI.inv (L.getD j []).tail
  have hd := fall_less hI.inv hj.1 hj.2
  have hc := end_au h (fallV L j)
  rw [fall_at hj.1 hj.2] at hc ⊢
  rw [link_fall hI.inv (fun x hx => (hI.ws x hx).1) hj.2]
  generalize deep L (L.getD j []).tail = k at *
  have e : endN L.length (Gf L V pre) (data L V) k = endV L V k := by
    unfold endN
    rw [if_neg (by omega), Int.toNat_natCast, data_words]
    by_cases hw : wordsV L V k = []
    · rw [if_pos hw, end_link hI.inv hk hw]
      exact (gf_fall hI.inv ho hk hd).2
    · rw [if_neg hw, end_words hI.inv hk hw (fun h0 => (hI.ws [] h0).2 rfl)]
  rw [← e]
  exact hc
theorem gf_snoc {L V : LL} {pre : List Nat} {j : Nat} (k : Nat) : upd (upd (Gf L V pre) j ((Gf L V pre j).1, fallV L j, (Gf L V pre j).2.2)) j ((upd (Gf L V pre) j ((Gf L V pre j).1, fallV L j, (Gf L V pre j).2.2) j).1, (upd (Gf L V pre) j ((Gf L V pre j).1, fallV L j, (Gf L V pre j).2.2) j).2.1, linkV L V j) k = Gf L V (pre ++ [j]) k := by
  by_cases e : k = j
  · subst e
    simp only [upd_at]
    unfold Gf
    simp
  · rw [upd_ne _ _ e, upd_ne _ _ e]
    unfold Gf
    simp [e]
set_option maxRecDepth 100000 in
set_option maxHeartbeats 4000000 in
theorem new_au {w : World} {Bt tb nb nc : Nat} {rvt : Nat → Value} {L V : LL} (hT : TrP w Bt tb nb nc rvt L V) (hI : Iw L V) (hlen : L.length ≤ 1000) (hVl : V.length ≤ 1000) :
    Calls Try.prog 34 #[.pointer (some ⟨tb, 0, none⟩)] w fun e w' => ∃ ab sb rv, e = .returned (.pointer (some ⟨ab, 0, none⟩)) ∧ AuX w' w.heap.size ab sb L.length (Gf L V (order L)) rv (data L V) ∧ Below w.heap.size w w' := by
  have HLE := Lib.hid (len_tr hT)
  obtain ⟨i0, hi, hz0, hz1, hz2⟩ := info_parts Try.info_state
  obtain ⟨n, hn⟩ : ∃ n, L.length = n := ⟨_, rfl⟩
  have hn9 : n ≤ 1000 := by omega
  have hmk : (Instr.makeSlice 69 (.int .i64 (n : Int)) (.int .i64 (n : Int))).run Try.prog w = .ok (.slice (some ⟨w.heap.size, 0, none⟩) n n) (w.alloc (.cells (madeCells #[.int .u64 0, .int .i64 0, .int .i64 0, .slice none 0 0, .slice none 0 0] (n * 5)) 74)) := by
    have h := run_make (P := Try.prog) w 69 74 i0 _ Try.underlying69 hi hz0 .i64 .i64 (n : Int) (n : Int) (by omega) (Int.le_refl _) (by rw [hz2]; omega) (by omega)
    rw [hz1, Int.toNat_natCast] at h
    exact h
  have hb1 := box1T w (.cells (madeCells #[.int .u64 0, .int .i64 0, .int .i64 0, .slice none 0 0, .slice none 0 0] (n * 5)) 74)
  have hsb := World.alloc_heap_new w (.cells (madeCells #[.int .u64 0, .int .i64 0, .int .i64 0, .slice none 0 0, .slice none 0 0] (n * 5)) 74)
  have hs1 : (w.alloc (.cells (madeCells #[.int .u64 0, .int .i64 0, .int .i64 0, .slice none 0 0, .slice none 0 0] (n * 5)) 74)).heap.size = w.heap.size + 1 := by simp
  obtain ⟨W1, hW1⟩ : ∃ W1, w.alloc (.cells (madeCells #[.int .u64 0, .int .i64 0, .int .i64 0, .slice none 0 0, .slice none 0 0] (n * 5)) 74) = W1 := ⟨_, rfl⟩
  rw [hW1] at hmk hb1 hsb hs1
  obtain ⟨sb, hsbe⟩ : ∃ sb, w.heap.size = sb := ⟨_, rfl⟩
  rw [hsbe] at hmk hsb hs1
  rw [hn] at HLE
  have HT := Lib.hid hT
  have HI := Lib.hid hI
  have HN := Lib.hid hn
  have HSB := Lib.hid hsb
  have HB1 := Lib.hid hb1
  have HVL := Lib.hid hVl
  have HFL : Hid (∀ g, Fp tb nb L.length rvt g → g < w.heap.size) := Lib.hid fun g hg => (TrX.lt hT hg).2
  clear hT hI hn hsb hb1 hW1 hVl hlen hi hz0 hz1 hz2
  refine calls_of_marks Try.func34 rfl ?_
  simp only [Try.ntmps34, List.size_toArray, List.length_cons, List.length_nil, Nat.reduceAdd, Nat.reduceSub, Array.replicate_succ, Array.replicate_zero, List.push_toArray, List.append_toArray, List.nil_append, List.cons_append]
  go_upto_region 2 with (go_at_call 35; refine HLE.out.mono ?_; rintro e w1 ⟨rfl, rfl⟩)
  have HSE := Lib.hid hsbe
  obtain ⟨W2, hW2⟩ : ∃ W2, W1.alloc (.cells #[.slice (some ⟨sb, 0, none⟩) n n] 71) = W2 := ⟨_, rfl⟩
  have hb2 : Below W1.heap.size W1 W2 := by rw [← hW2]; exact box1T _ _
  have hab2 : W2.heap[sb + 1]? = some (.cells #[.slice (some ⟨sb, 0, none⟩) n n] 71 (0, 0)) := by
    have := World.alloc_heap_new W1 (.cells #[.slice (some ⟨sb, 0, none⟩) n n] 71)
    rwa [hW2, hs1] at this
  have hs2 : W2.heap.size = sb + 2 := by rw [← hW2]; simp [hs1]
  rw [hW2]
  obtain ⟨W3, hW3⟩ : ∃ W3, W2.alloc (.cells #[.pointer (some ⟨sb + 1, 0, none⟩)] 23) = W3 := ⟨_, rfl⟩
  have hb3 : Below W2.heap.size W2 W3 := by rw [← hW3]; exact box1T _ _
  have cq : W3.cell? ⟨sb + 1 + 1, 0, none⟩ = some (.pointer (some ⟨sb + 1, 0, none⟩)) := by
    have := (Boxed.new W2 23 (.pointer (some ⟨sb + 1, 0, none⟩))).cell
    rwa [hW3, hs2] at this
  rw [hW3]
  have hsb3 : W3.heap[sb]? = _ := (hb3.block sb (by omega)).trans ((hb2.block sb (by omega)).trans HSB.out)
  have hab3 := (hb3.block (sb + 1) (by omega)).trans hab2
  have hb03 : Below w.heap.size w W3 := bel_step (bel_step HB1.out hb2) hb3
  obtain ⟨ab, hab⟩ : ∃ ab, sb + 1 = ab := ⟨_, rfl⟩
  rw [hab] at hab3 cq
  rw [hab]
  obtain ⟨q, hq⟩ : ∃ q, ab + 1 = q := ⟨_, rfl⟩
  rw [hq] at cq
  rw [hq]
  have hA3 := AuX.made L V (show w.heap.size ≤ sb by omega) (show w.heap.size ≤ ab by omega) hn9 hsb3 hab3
  have HB3 := Lib.hid hb03
  have HA3 := Lib.hid hA3
  have HCQ := Lib.hid cq
  have b0 := hA3.boxes
  have HQ : Hid (sb < q ∧ ab < q ∧ w.heap.size ≤ q) := Lib.hid (by omega)
  clear hb2 hab2 hs2 hW2 hW3 hb3 hsb3 hab3 hb03 hA3 hs1 hmk hab hq hsbe HLE
  go_wp2
  go_loopw [17] (fun s17 wr => ∃ i : Nat, i ≤ n ∧ s17 = .int .i64 i ∧ ∃ rv, AuX wr w.heap.size ab sb n (TF L i) rv (TX L V i) ∧ (∀ j, 2 * i + 1 ≤ j → rv j = .slice none 0 0) ∧ wr.cell? ⟨q, 0, none⟩ = some (.pointer (some ⟨ab, 0, none⟩)) ∧ Below w.heap.size w wr ∧ ¬ Fa ab sb n rv q) (fun s17 _ => n - (intOf s17).toNat)
  case atStart =>
    refine ⟨0, Nat.zero_le _, rfl, r00, HA3.out, fun _ _ => rfl, HCQ.out, HB3.out, fun h => ?_⟩
    have := HQ.out
    rcases h with e | e | ⟨j, _, _, e⟩
    · omega
    · omega
    · cases e
  case round =>
    obtain ⟨i, hi, rfl, rv, hA, hnil, hcq, hb, hnq⟩ := hrel
    have HA := Lib.hid hA
    have HB := Lib.hid hb
    have HCQr := Lib.hid hcq
    have HNQ := Lib.hid hnq
    have HNIL := Lib.hid hnil
    by_cases hlt : i < n
    · have hltI : (i : Int) < (n : Int) := by omega
      have hi0 : (0 : Int) ≤ (i : Int) := Int.natCast_nonneg _
      have hTr := HT.out.later hb
      have hTK := take_au hTr HI.out.inv (fun x hx => (HI.out.ws x hx).1) hA HN.out.symm (by rw [HN.out]; exact hn9) HVL.out (fun g hg hF => by have := HFL.out g hg; have := (hA.lt hF).1; omega) hlt (hnil _ (by omega)) (hnil _ (by omega))
      have HTK := Lib.hid hTK
      clear hTK hTr hA hnil hb hnq b0
      go_wp2_with (go_at_call 52; refine HTK.out.mono ?_; rintro e w5 ⟨rfl, rv', hA5, hrv5, hTu5⟩; have HA5 := Lib.hid hA5; have HRV5 := Lib.hid hrv5; have HTU5 := Lib.hid hTu5; clear hA5 hrv5 hTu5)
      go_roundw
      case rel =>
        refine ⟨i + 1, by omega, by go_num, rv', HA5.out, fun j hj => ?_, HTU5.out.sep.cell HNQ.out HCQr.out, ?_, fun hF => ?_⟩
        · rw [HRV5.out j (by omega) (by omega)]; exact HNIL.out j (by omega)
        · refine HB.out.trans ⟨HTU5.out.sep.os, HTU5.out.sep.tape, HTU5.out.sep.output, HTU5.out.sep.size, fun k hk => HTU5.out.sep.block k (Nat.lt_of_lt_of_le hk HB.out.size) (fun hF => by have := (HA.out.lt hF).1; omega)⟩
        · rcases HTU5.out.foot q hF with e | e
          · exact HNQ.out e
          · have h9 : q < wr.heap.size := block_lt_of_cell HCQr.out
            omega
      case measure => simp [intOf]; omega
    · obtain rfl : i = n := by omega
      have hltI : ¬ (i : Int) < (i : Int) := by omega
      have hA0 : AuX wr w.heap.size ab sb L.length (Gf L V []) rv (data L V) := by
        have h := hA.congr (g := Gf L V []) (ys := data L V) (fun j hj => by rw [← HN.out] at hj ⊢; exact TF_all HI.out.inv hj) (fun m h1 h2 => by rw [← HN.out] at h2 ⊢; exact TX_all L V h1 h2)
        rwa [← HN.out] at h
      have HA0 := Lib.hid hA0
      clear hA hA0 hnil HNIL HA HA3
      go_wp2_with (go_at_call 53; refine (falls_made _ _ _).mono ?_; rintro e w4 ⟨x, y, rfl, hxy, hx, hy, cx, cy, hb4⟩; have HB4 := Lib.hid hb4; have HCX := Lib.hid cx; have HCY := Lib.hid cy; clear hb4 cx cy)
      have hs4 := HB4.out.size
      have hxl : x < w4.heap.size := block_lt_of_cell HCX.out
      have hyl : y < w4.heap.size := block_lt_of_cell HCY.out
      have hql : q < wr.heap.size := block_lt_of_cell HCQr.out
      have HFA : Hid (∀ g, Fa ab sb L.length rv g → g < w4.heap.size) := Lib.hid fun g hg => by have := (HA0.out.lt hg).2; omega
      have HT4 := Lib.hid ((HT.out.later HB.out).later HB4.out)
      have hFw : ∀ g, Fp tb nb L.length rvt g → g < w4.heap.size := fun g hg => (TrX.lt HT4.out hg).2
      have HFW := Lib.hid hFw
      clear hFw hcq hb hnq
      refine range_wpK (gf := 65) (lb := #[.pointer (some ⟨y, 0, none⟩), .pointer (some ⟨x, 0, none⟩)]) rfl (enters_of Try.func65 (by kernel_rfl) rfl)
        (falls_gives (B := w.heap.size) (sb := sb) (rv := rv) HT4.out HI.out.inv (by rw [HN.out]; exact hn9) HCX.out HCY.out (HFA.out ab (.inl rfl)))
        (fun k e => .inr (.inr (.inr e))) (by rintro (e | e | e | e) <;> first | omega | (have := HFW.out _ e; omega)) (by rintro (e | e | e | e) <;> first | omega | (have := HFW.out _ e; omega)) (fun _ => rfl)
        (fun pre A => AuX A w.heap.size ab sb L.length (Gf L V pre) rv (data L V) ∧ A.cell? ⟨q, 0, none⟩ = some (.pointer (some ⟨ab, 0, none⟩)) ∧ Below w.heap.size w A) (fun _ _ _ => False)
        (fun _ _ h => h.1) (fun _ _ _ h => h.elim) ?hI (fun _ _ _ _ h _ => h) ⟨HA0.out.later HB4.out, cell_later HB4.out HCQr.out, bel_step HB.out HB4.out⟩ ?_ ?assign ?body ?done (fun _ _ _ _ h _ => h.elim)
      case hI =>
        rintro pre A B' ⟨h1, h2, h3⟩ hs
        have hlow : ∀ k, k < w4.heap.size → ¬ (Zn w4 k ∨ k = w4.heap.size ∨ k = w4.heap.size + 1) := fun k hk e => by
          rcases e with e | e | e
          · have : w4.heap.size + 2 ≤ k := e
            omega
          · omega
          · omega
        have h3s := h3.size
        have hws := HB.out.size
        exact ⟨h1.of_blocks fun g hg => hs.block g (h1.lt hg).2 (hlow g (HFA.out g hg)), hs.cell (hlow q (by omega)) h2, h3.trans (hs.below h3s fun k hk => hlow k (by omega))⟩
      case assign =>
        intro l' j W' K hK
        gi_wp2
        exact hK
      case body =>
        rintro l' pre j rest W' hx hlt9 ⟨hA, hcq, hB⟩
        have hjm := (mem_order HI.out.inv).1 (by rw [hx]; simp : j ∈ order L)
        have hjL : j < L.length := hjm.2
        have b0 := hA.boxes
        have hln9 := hA.len9
        have hjI : (j : Int) < (L.length : Int) := by omega
        have hj0 : (0 : Int) ≤ (j : Int) := Int.natCast_nonneg _
        have hS : W'.drew.cell? ⟨q, 0, none⟩ = some (.pointer (some ⟨ab, 0, none⟩)) ∧ W'.drew.cell? ⟨ab, 0, none⟩ = some (.slice (some ⟨sb, 0, none⟩) L.length L.length) := ⟨hcq, b0⟩
        have HA2 := Lib.hid hA
        have HCE := Lib.hid (falls_end (hA.later ((Below.refl W'.heap.size W').drew)) HI.out hx)
        have HBW := Lib.hid hB
        have hqab : q ≠ sb ∧ ab ≠ sb := ⟨by have := HQ.out; omega, hA.ab_ne⟩
        have HQA := Lib.hid hqab
        clear hA hcq b0 hjm hB hqab
        gi_wp2
        refine rd_begin (S := fun w' => w'.cell? ⟨q, 0, none⟩ = some (.pointer (some ⟨ab, 0, none⟩)) ∧ w'.cell? ⟨ab, 0, none⟩ = some (.slice (some ⟨sb, 0, none⟩) L.length L.length)) (by kernel_rfl) hS (fun _ => ?_)
        refine rd_take (i := 0) _ (.pointer (some ⟨ab, 0, none⟩)) (by kernel_rfl) rfl (by kernel_rfl) (by kernel_rfl) (by kernel_rfl) (fun _ _ _ h => h) (Or.inl ⟨by rfl, fun w9 hSw => ?_⟩) hS ?_
        · obtain ⟨s1, s2⟩ := hSw
          go_simp
        (try simp only [Act.put, List.setIfInBounds_toArray])
        refine rd_take (i := 1) _ (.pointer (some ⟨ab, 0, none⟩)) (by kernel_rfl) rfl (by kernel_rfl) (by kernel_rfl) (by kernel_rfl) (fun _ _ _ h => h) (Or.inl ⟨by rfl, fun w9 hSw => ?_⟩) hS ?_
        · obtain ⟨s1, s2⟩ := hSw
          go_simp
        (try simp only [Act.put])
        refine rd_take (i := 2) _ (.pointer (some ⟨ab, 0, none⟩)) (by kernel_rfl) rfl (by kernel_rfl) (by kernel_rfl) (by kernel_rfl) (fun _ _ _ h => h) (Or.inl ⟨by rfl, fun w9 hSw => ?_⟩) hS ?_
        · obtain ⟨s1, s2⟩ := hSw
          go_simp
        (try simp only [Act.put])
        refine rd_take (i := 3) _ (.slice (some ⟨sb, 0, none⟩) L.length L.length) (by kernel_rfl) rfl (by kernel_rfl) (by kernel_rfl) (by kernel_rfl) (fun _ _ _ h => h) (Or.inl ⟨by rfl, fun w9 hSw => ?_⟩) hS ?_
        · obtain ⟨s1, s2⟩ := hSw
          go_simp
        (try simp only [Act.put])
        refine rd_take (i := 4) _ (.int .i64 (j : Int)) (by kernel_rfl) rfl (by kernel_rfl) (by kernel_rfl) (by kernel_rfl) (fun _ _ _ h => h) (Or.inl ⟨by rfl, fun w9 hSw => ?_⟩) hS ?_
        · obtain ⟨s1, s2⟩ := hSw
          go_simp
        (try simp only [Act.put])
        refine rd_take (i := 5) _ (.pointer (some ⟨ab, 0, none⟩)) (by kernel_rfl) rfl (by kernel_rfl) (by kernel_rfl) (by kernel_rfl) (fun _ _ _ h => h) (Or.inl ⟨by rfl, fun w9 hSw => ?_⟩) hS ?_
        · obtain ⟨s1, s2⟩ := hSw
          go_simp
        (try simp only [Act.put])
        refine rd_take (i := 6) _ (.pointer (some ⟨ab, 0, none⟩)) (by kernel_rfl) rfl (by kernel_rfl) (by kernel_rfl) (by kernel_rfl) (fun _ _ _ h => h) (Or.inl ⟨by rfl, fun w9 hSw => ?_⟩) hS ?_
        · obtain ⟨s1, s2⟩ := hSw
          go_simp
        (try simp only [Act.put])
        refine rd_take (i := 7) _ (.pointer (some ⟨ab, 0, none⟩)) (by kernel_rfl) rfl (by kernel_rfl) (by kernel_rfl) (by kernel_rfl) (fun _ _ _ h => h) (Or.inl ⟨by rfl, fun w9 hSw => ?_⟩) hS ?_
        · obtain ⟨s1, s2⟩ := hSw
          go_simp
        (try simp only [Act.put])
        refine rd_take (i := 8) _ (.slice (some ⟨sb, 0, none⟩) L.length L.length) (by kernel_rfl) rfl (by kernel_rfl) (by kernel_rfl) (by kernel_rfl) (fun _ _ _ h => h) (Or.inl ⟨by rfl, fun w9 hSw => ?_⟩) hS ?_
        · obtain ⟨s1, s2⟩ := hSw
          go_simp
        (try simp only [Act.put])
        refine rd_take (i := 9) _ (.int .i64 (j : Int)) (by kernel_rfl) rfl (by kernel_rfl) (by kernel_rfl) (by kernel_rfl) (fun _ _ _ h => h) (Or.inl ⟨by rfl, fun w9 hSw => ?_⟩) hS ?_
        · obtain ⟨s1, s2⟩ := hSw
          go_simp
        (try simp only [Act.put])
        refine rd_take (i := 10) _ (.int .i64 (fallV L j)) (by kernel_rfl) rfl (by kernel_rfl) (by kernel_rfl) (by kernel_rfl) (fun _ _ _ h => h) (Or.inl ⟨by rfl, fun w9 hSw => ?_⟩) hS ?_
        · obtain ⟨s1, s2⟩ := hSw
          go_simp
        (try simp only [Act.put])
        refine rd_take (i := 11) _ (.pointer (some ⟨ab, 0, none⟩)) (by kernel_rfl) rfl (by kernel_rfl) (by kernel_rfl) (by kernel_rfl) (fun _ _ _ h => h) (Or.inl ⟨by rfl, fun w9 hSw => ?_⟩) hS ?_
        · obtain ⟨s1, s2⟩ := hSw
          go_simp
        (try simp only [Act.put])
        refine rd_take (i := 12) _ (.int .i64 (fallV L j)) (by kernel_rfl) rfl (by kernel_rfl) (by kernel_rfl) (by kernel_rfl) (fun _ _ _ h => h) (Or.inl ⟨by rfl, fun w9 hSw => ?_⟩) hS ?_
        · obtain ⟨s1, s2⟩ := hSw
          go_simp
        (try simp only [Act.put])
        refine rd_one (i := 13) _ (by kernel_rfl) rfl (fun K hK => ?_)
        go_simp
        refine ⟨trivial, ?_⟩
        refine (((callsIn_wide (n := _)).2 HCE.out).inRound l').mono ?_
        rintro e w5 ⟨rfl, hb5⟩
        have hS5 := And.intro (cell_later hb5 hS.1) (cell_later hb5 hS.2)
        have hA5 := HA2.out.later (bel_und hb5)
        have HB5 := Lib.hid (bel_und hb5)
        obtain ⟨c0, c1, c2, c3, c4⟩ := hA5.cells hjL
        have fr1 := hA5.fr (j * 5 + 1)
        have fr2 := hA5.fr (j * 5 + 2)
        have HA5 := Lib.hid hA5
        refine hK _ _ hS5 (fun _ => ?_)
        clear hK K hb5 hS hA5 c0 c3 c4
        have hS := hS5
        clear hS5
        (try simp only [Act.put, List.setIfInBounds_toArray, List.set_cons_zero, List.set_cons_succ])
        refine rd_take (i := 14) _ (.pointer (some ⟨sb, j * 5, none⟩)) (by kernel_rfl) rfl (by kernel_rfl) (by kernel_rfl) (by kernel_rfl) (fun _ _ _ h => h) (Or.inl ⟨by rfl, fun w9 hSw => ?_⟩) hS ?_
        · obtain ⟨s1, s2⟩ := hSw
          go_simp
        (try simp only [Act.put, List.setIfInBounds_toArray])
        refine rd_take (i := 15) _ (.pointer (some ⟨sb, j * 5 + 1, none⟩)) (by kernel_rfl) rfl (by kernel_rfl) (by kernel_rfl) (by kernel_rfl) (fun _ _ _ h => h) (Or.inl ⟨by rfl, fun w9 hSw => ?_⟩) hS ?_
        · obtain ⟨s1, s2⟩ := hSw
          go_simp
        (try simp only [Act.put])
        refine rd_one (i := 16) _ (by kernel_rfl) rfl (fun K hK => ?_)
        go_simp
        have hS6 : (w5.setCell ⟨sb, j * 5 + 1, none⟩ (.int .i64 (fallV L j))).cell? ⟨q, 0, none⟩ = some (.pointer (some ⟨ab, 0, none⟩)) ∧ (w5.setCell ⟨sb, j * 5 + 1, none⟩ (.int .i64 (fallV L j))).cell? ⟨ab, 0, none⟩ = some (.slice (some ⟨sb, 0, none⟩) L.length L.length) :=
          ⟨(World.cell?_setCell_far w5 _ _ _ (fun e => HQA.out.1 e.symm)).trans hS.1, (World.cell?_setCell_far w5 _ _ _ (fun e => HQA.out.2 e.symm)).trans hS.2⟩
        have hA6 := HA5.out.fall hjL (fallV L j)
        obtain ⟨_, _, d2, _, _⟩ := hA6.cells hjL
        have fr6 := hA6.fr (j * 5 + 2)
        have HA6 := Lib.hid hA6
        refine hK _ _ hS6 (fun _ => ?_)
        clear hK K hS hA6 c1 c2 fr1 fr2
        have hS := hS6
        clear hS6
        (try simp only [Act.put, List.setIfInBounds_toArray, List.set_cons_zero, List.set_cons_succ])
        refine rd_take (i := 17) _ (.pointer (some ⟨sb, j * 5, none⟩)) (by kernel_rfl) rfl (by kernel_rfl) (by kernel_rfl) (by kernel_rfl) (fun _ _ _ h => h) (Or.inl ⟨by rfl, fun w9 hSw => ?_⟩) hS ?_
        · obtain ⟨s1, s2⟩ := hSw
          go_simp
        (try simp only [Act.put, List.setIfInBounds_toArray])
        refine rd_take (i := 18) _ (.pointer (some ⟨sb, j * 5 + 2, none⟩)) (by kernel_rfl) rfl (by kernel_rfl) (by kernel_rfl) (by kernel_rfl) (fun _ _ _ h => h) (Or.inl ⟨by rfl, fun w9 hSw => ?_⟩) hS ?_
        · obtain ⟨s1, s2⟩ := hSw
          go_simp
        (try simp only [Act.put])
        refine rd_one (i := 19) _ (by kernel_rfl) rfl (fun K hK => ?_)
        go_simp
        have hS7 : ((w5.setCell ⟨sb, j * 5 + 1, none⟩ (.int .i64 (fallV L j))).setCell ⟨sb, j * 5 + 2, none⟩ (.int .i64 (linkV L V j))).cell? ⟨q, 0, none⟩ = some (.pointer (some ⟨ab, 0, none⟩)) ∧ ((w5.setCell ⟨sb, j * 5 + 1, none⟩ (.int .i64 (fallV L j))).setCell ⟨sb, j * 5 + 2, none⟩ (.int .i64 (linkV L V j))).cell? ⟨ab, 0, none⟩ = some (.slice (some ⟨sb, 0, none⟩) L.length L.length) :=
          ⟨(World.cell?_setCell_far _ _ _ _ (fun e => HQA.out.1 e.symm)).trans hS.1, (World.cell?_setCell_far _ _ _ _ (fun e => HQA.out.2 e.symm)).trans hS.2⟩
        have hA7 := (HA6.out.link hjL (linkV L V j)).congr (g := Gf L V (pre ++ [j])) (ys := data L V) (fun k _ => gf_snoc k) (fun _ _ _ => rfl)
        have hsb4 := HFA.out sb (.inr (.inl rfl))
        have hws := HB.out.size
        have hsbw := (HA0.out.lt (.inr (.inl rfl))).2
        have hsbl := (HA0.out.lt (.inr (.inl rfl))).1
        have hHold : Hold (fun k => Zf x y tb nb L.length rvt w4 k ∨ k = w4.heap.size ∨ k = w4.heap.size + 1) W' ((w5.setCell ⟨sb, j * 5 + 1, none⟩ (.int .i64 (fallV L j))).setCell ⟨sb, j * 5 + 2, none⟩ (.int .i64 (linkV L V j))) := by
          have hz : ¬ (Zf x y tb nb L.length rvt w4 sb ∨ sb = w4.heap.size ∨ sb = w4.heap.size + 1) := by
            rintro ((e | e | e | e) | e | e)
            · omega
            · omega
            · have := HFL.out _ e; omega
            · omega
            · omega
            · omega
          have h0 : Hold (fun k => Zf x y tb nb L.length rvt w4 k ∨ k = w4.heap.size ∨ k = w4.heap.size + 1) W' w5 := ⟨HB5.out.size, fun k hk _ => HB5.out.block k hk⟩
          exact (h0.trans (.setCell _ hz _)).trans (.setCell _ hz _)
        have hBel : Below w.heap.size w ((w5.setCell ⟨sb, j * 5 + 1, none⟩ (.int .i64 (fallV L j))).setCell ⟨sb, j * 5 + 2, none⟩ (.int .i64 (linkV L V j))) :=
          ((bel_step HBW.out HB5.out).setCell (by simpa using hsbl) _).setCell (by simpa using hsbl) _
        have HFIN := Lib.hid (And.intro hHold (And.intro hA7 (And.intro hS7.1 hBel)))
        refine hK _ _ hS7 (fun _ => ?_)
        clear hK K hS hA7 hS7 hHold hBel d2 fr6
        refine rd_done (by kernel_rfl) ?_ _
        (try simp only [Act.put, List.setIfInBounds_toArray, List.set_cons_zero, List.set_cons_succ])
        gi_wp2
        exact HFIN.out
      case done =>
        rintro W' ⟨h1, h2, h3⟩ hd
        have hlD : w4.heap.size < W'.heap.size := (Array.getElem?_eq_some_iff.1 hd).1
        have H1 := Lib.hid h1
        have H3 := Lib.hid h3
        clear h1 h3
        go_wp2
        refine ret_mark hd (results_tmp rfl _ _ _) ?_
        refine ⟨ab, sb, rv, rfl, H1.out.of_blocks fun g hg => World.putObj_heap_other (by have := HFA.out g hg; omega), Below.putObj H3.out (by have := HB.out.size; omega) _⟩
end Go.Proofs.Ytehmbnloplamaaa

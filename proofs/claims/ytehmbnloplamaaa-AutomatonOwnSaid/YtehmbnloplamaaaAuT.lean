/- A node of a tree becomes a state. Condition: a tree of few nodes and words; an automaton that stands apart from it. -/
import Derived.Test.YtehmbnloplamaaaAuB
import Derived.Test.YtehmbnloplamaaaTrH
import Derived.Test.YtehmbnloplamaaaTrJ
import Derived.Test.YtehmbnloplamaaaTrQ
namespace Go.Proofs.Ytehmbnloplamaaa
open Go.RowKit
set_option linter.unusedVariables false
open Tr Au
namespace Au
section
variable {w : World} {B ab sb n : Nat} {f : Nat → Nd} {rv : Nat → Value} {xs : Nat → List Int}
/-- behind a row's growth: what still stands -/
theorem AuX.still (h : AuX w B ab sb n f rv xs) {w1 : World} {i : Nat} (h1 : 1 ≤ i) (hi : i < 2 * n + 1) (hg : w.grownBy w1 (rv i).ownBlock) : (∀ a, a.block = sb ∨ a.block = ab → w1.cell? a = w.cell? a ∧ w1.frozen? a = w.frozen? a) := by
  intro a ha
  have hb : w1.heap[a.block]? = w.heap[a.block]? := by
    rcases ha with e | e
    · rw [e]; exact hg.block sb (h.lt (.inr (.inl rfl))).2 (fun e => h.row_ne h1 hi e.symm)
    · rw [e]; exact hg.block ab (h.lt (.inl rfl)).2 (fun e => h.box_ne h1 hi e.symm)
  exact ⟨World.cell?_of_block hb, World.frozen?_of_block hb⟩
theorem AuX.push_turn (h : AuX w B ab sb n f rv xs) {w1 : World} {i : Nat} (h1 : 1 ≤ i) (hi : i < 2 * n + 1) {v' : Value} (hg : w.grownBy w1 (rv i).ownBlock) (hat : v'.ownBlock = (rv i).ownBlock ∨ ∃ g, v'.ownBlock = some g ∧ w.heap.size ≤ g) (k : Nat) (v : Value) :
    Turn w (Fa ab sb n rv) (w1.setCell ⟨sb, k, none⟩ v) (Fa ab sb n (upd rv i v')) := by
  refine ⟨⟨hg.os, hg.tape, hg.output, by simp; exact hg.size, fun k hk hz => ?_⟩, fun g hgF => ?_⟩
  · rw [Below.heap_setCell w1 _ _ k (fun e => hz (.inr (.inl e)))]
    exact hg.block k hk (fun e => hz (.inr (.inr ⟨i, h1, hi, e.symm⟩)))
  · rcases hgF with e | e | ⟨j, hj1, hj, e⟩
    · exact .inl (.inl e)
    · exact .inl (.inr (.inl e))
    · by_cases hji : j = i
      · subst hji
        rw [upd_at] at e
        rcases hat with q1 | ⟨g', q1, q2⟩
        · rw [q1] at e; exact .inl (.inr (.inr ⟨j, hj1, hj, e⟩))
        · rw [q1] at e; injection e with e; exact .inr (by omega)
      · rw [upd_ne _ _ hji] at e; exact .inl (.inr (.inr ⟨j, hj1, hj, e⟩))
theorem set_turn (w : World) (ab sb n : Nat) (rv : Nat → Value) (k : Nat) (v : Value) : Turn w (Fa ab sb n rv) (w.setCell ⟨sb, k, none⟩ v) (Fa ab sb n rv) :=
  ⟨Sep.setCell _ (.inr (.inl rfl)) _, fun g h => .inl h⟩
end
theorem turn_below {w w' : World} {F F' : Nat → Prop} (h : Turn w F w' F') {w0 : World} (hb : Below w'.heap.size w' w0) : Turn w F w0 F' :=
  ⟨⟨hb.os.trans h.sep.os, hb.tape.trans h.sep.tape, hb.output.trans h.sep.output, Nat.le_trans h.sep.size hb.size, fun k hk hz => (hb.block k (Nat.lt_of_lt_of_le hk h.sep.size)).trans (h.sep.block k hk hz)⟩, h.foot⟩
theorem below_turn {w w' : World} (F : Nat → Prop) (hb : Below w.heap.size w w') : Turn w F w' F :=
  ⟨⟨hb.os, hb.tape, hb.output, hb.size, fun k hk _ => hb.block k hk⟩, fun g h => .inl h⟩
/-- the states behind the first i children -/
def kidF (L : LL) (K : List Nat) (f : Nat → Nd) (i : Nat) (j : Nat) : Nd := if j ∈ K.take i then (num L j, (f j).2.1, (f j).2.2) else f j
theorem kidF_zero (L : LL) (K : List Nat) (f : Nat → Nd) : kidF L K f 0 = f := by funext j; unfold kidF; simp
theorem kidF_succ (L : LL) (K : List Nat) (f : Nat → Nd) {i : Nat} (hi : i < K.length) : upd (kidF L K f i) (K.getD i 0) (num L (K.getD i 0), (kidF L K f i (K.getD i 0)).2.1, (kidF L K f i (K.getD i 0)).2.2) = kidF L K f (i + 1) := by
  funext j
  have ht : K.take (i + 1) = K.take i ++ [K.getD i 0] := by rw [List.take_succ_eq_append_getElem hi, gD hi]
  unfold upd kidF
  rw [ht]
  by_cases e : j = K.getD i 0
  · subst e
    rw [if_pos rfl]
    by_cases e2 : K.getD i 0 ∈ K.take i
    · rw [if_pos e2, if_pos (List.mem_append_left _ e2)]
    · rw [if_neg e2, if_pos (List.mem_append_right _ (List.mem_singleton.2 rfl))]
  · rw [if_neg e]
    by_cases e2 : j ∈ K.take i
    · rw [if_pos e2, if_pos (List.mem_append_left _ e2)]
    · rw [if_neg e2, if_neg (fun h => by rcases List.mem_append.1 h with h | h; exact e2 h; exact e (List.mem_singleton.1 h))]
def takeF (L : LL) (f : Nat → Nd) (k : Nat) : Nat → Nd := kidF L (kids L k) (upd f k ((f k).1, -1, -1)) (kids L k).length
theorem upd_upd {α : Type} (f : Nat → α) (i : Nat) (x y : α) : upd (upd f i x) i y = upd f i y := by funext j; unfold upd; by_cases e : j = i <;> simp [e]
theorem upd_self {α : Type} (f : Nat → α) (i : Nat) : upd f i (f i) = f := by funext j; unfold upd; by_cases e : j = i <;> simp [e]
theorem kid_child {L : LL} (hI : Inv L) {k i : Nat} (hk : k < L.length) (hi : i < (kids L k).length) : childV L k (num L ((kids L k).getD i 0)) = ((kids L k).getD i 0 : Nat) := child_hit hI hk hi rfl
end Au
set_option maxRecDepth 100000 in
set_option maxHeartbeats 2000000 in
theorem take_au {w : World} {Bt tb nb nc Ba ab sb n : Nat} {rvt : Nat → Value} {L V : LL} {f : Nat → Nd} {rv : Nat → Value} {xs : Nat → List Int} (hT : TrP w Bt tb nb nc rvt L V) (hI : Inv L) (hV : ∀ x ∈ V, x ∈ L) (hA : AuX w Ba ab sb n f rv xs) (hn : n = L.length) (hlen : L.length ≤ 1000) (hVl : V.length ≤ 1000)
    (hlow : ∀ g, Fp tb nb L.length rvt g → ¬ Fa ab sb n rv g) {k : Nat} (hk : k < n) (h1 : rv (2 * k + 1) = .slice none 0 0) (h2 : rv (2 * k + 2) = .slice none 0 0) :
    Calls Try.prog 52 #[.pointer (some ⟨ab, 0, none⟩), .pointer (some ⟨tb, 0, none⟩), .int .i64 k] w fun e w' => e = .returned (.tuple #[]) ∧ ∃ rv', AuX w' Ba ab sb n (takeF L f k) rv' (upd (upd xs (2 * k + 2) (wordsV L V k)) (2 * k + 1) (ints (kids L k))) ∧ (∀ j, j ≠ 2 * k + 1 → j ≠ 2 * k + 2 → rv' j = rv j) ∧ Turn w (Fa ab sb n rv) w' (Fa ab sb n rv') := by
  have HA := Lib.hid hA
  have HT := Lib.hid hT
  have HI := Lib.hid hI
  have HNL := Lib.hid hn
  have HLOW := Lib.hid hlow
  have hn9 : n ≤ 1000 := by omega
  have HWD := Lib.hid (words_tr hT hV (by omega) (k : Int))
  have b0 := hA.boxes
  have hkI : (k : Int) < (n : Int) := by omega
  have hk0 : (0 : Int) ≤ (k : Int) := Int.natCast_nonneg _
  have H1 := Lib.hid h1
  have H2 := Lib.hid h2
  clear hT hI hV hA hn hlen hVl hlow h1 h2
  go_enter Try.func52, Try.ntmps52
  go_upto_region 1 with fail
  go_upto_region 2 with (go_at_call 63; refine HWD.out.mono ?_; rintro e w1 ⟨v, rfl, hown, hb1⟩; have HOW := Lib.hid hown; have HB1 := Lib.hid hb1; have hA1 := HA.out.later hb1; obtain ⟨c0, c1, c2, c3, c4⟩ := hA1.cells hk; have fr1 := hA1.fr (k * 5 + 1); have fr2 := hA1.fr (k * 5 + 2); have fr4 := hA1.fr (k * 5 + 4); rw [H2.out] at c4; obtain ⟨wa, wc, rfl⟩ := Tr.own_form hown; clear hown hb1)
  have hA4 : AuX (((w1.setCell ⟨sb, k * 5 + 1, none⟩ (.int .i64 (-1))).setCell ⟨sb, k * 5 + 2, none⟩ (.int .i64 (-1))).setCell ⟨sb, k * 5 + 4, none⟩ (.slice wa (wordsV L V k).length wc)) Ba ab sb n (upd f k ((f k).1, -1, -1)) (upd rv (2 * k + 2) (.slice wa (wordsV L V k).length wc)) (upd xs (2 * k + 2) (wordsV L V k)) := by
    have q1 := hA1.fall hk (-1)
    have q2 := q1.link hk (-1)
    have q3 := q2.congr (g := upd f k ((f k).1, -1, -1)) (ys := xs) (fun j _ => by unfold upd; by_cases e : j = k <;> simp [e]) (fun _ _ _ => rfl)
    have hsb : ∀ g, (Value.slice wa (wordsV L V k).length wc).ownBlock = some g → w.heap.size ≤ g := fun g hg => (HOW.out.lt g hg).1
    have hfa : ∀ g, (Value.slice wa (wordsV L V k).length wc).ownBlock = some g → ¬ Fa ab sb n rv g := fun g hg hF => by have := hsb g hg; have := (HA.out.lt hF).2; omega
    have q4 := q3.push (i := 2 * k + 2) (by omega) (by omega) (w1 := (w1.setCell ⟨sb, k * 5 + 1, none⟩ (.int .i64 (-1))).setCell ⟨sb, k * 5 + 2, none⟩ (.int .i64 (-1))) (v' := .slice wa (wordsV L V k).length wc) (ys := wordsV L V k)
      (ownsRow_base (own_of_block HOW.out fun g hg => by
        have hne : g ≠ sb := fun e => hfa g hg (.inr (.inl e))
        rw [Below.heap_setCell _ _ _ _ hne, Below.heap_setCell _ _ _ _ hne]) (by have := (HA.out.lt (.inl rfl)); have := HA.out.low; omega)) (Nat.le_refl _) (fun _ _ _ => rfl)
      (by
        rcases ho : (Value.slice wa (wordsV L V k).length wc).ownBlock with _ | g
        · left; rw [H2.out]; rfl
        · right; exact ⟨g, rfl, hfa g ho⟩)
    rw [at5_words] at q4
    exact q4
  have hTu4 : Turn w (Fa ab sb n rv) (((w1.setCell ⟨sb, k * 5 + 1, none⟩ (.int .i64 (-1))).setCell ⟨sb, k * 5 + 2, none⟩ (.int .i64 (-1))).setCell ⟨sb, k * 5 + 4, none⟩ (.slice wa (wordsV L V k).length wc)) (Fa ab sb n (upd rv (2 * k + 2) (.slice wa (wordsV L V k).length wc))) := by
    have q := ((below_turn (Fa ab sb n rv) HB1.out).trans (set_turn w1 ab sb n rv (k * 5 + 1) (.int .i64 (-1)))).trans ((set_turn _ ab sb n rv (k * 5 + 2) (.int .i64 (-1))).trans (set_turn _ ab sb n rv (k * 5 + 4) (.slice wa (wordsV L V k).length wc)))
    refine ⟨q.sep, fun g hg => ?_⟩
    rcases hg with e | e | ⟨j, hj1, hj, e⟩
    · exact .inl (.inl e)
    · exact .inl (.inr (.inl e))
    · by_cases hji : j = 2 * k + 2
      · subst hji; rw [upd_at] at e; exact .inr (HOW.out.lt g e).1
      · rw [upd_ne _ _ hji] at e; exact .inl (.inr (.inr ⟨j, hj1, hj, e⟩))
  obtain ⟨W4, hW4⟩ : ∃ W4, ((w1.setCell ⟨sb, k * 5 + 1, none⟩ (.int .i64 (-1))).setCell ⟨sb, k * 5 + 2, none⟩ (.int .i64 (-1))).setCell ⟨sb, k * 5 + 4, none⟩ (.slice wa (wordsV L V k).length wc) = W4 := ⟨_, rfl⟩
  rw [hW4] at hA4 hTu4
  try rw [hW4]
  clear hW4
  obtain ⟨fk, hf1⟩ : ∃ f1, upd f k ((f k).1, -1, -1) = f1 := ⟨_, rfl⟩
  obtain ⟨rv4, hrv4⟩ : ∃ rv4, upd rv (2 * k + 2) (.slice wa (wordsV L V k).length wc) = rv4 := ⟨_, rfl⟩
  obtain ⟨xs4, hxs4⟩ : ∃ xs4, upd xs (2 * k + 2) (wordsV L V k) = xs4 := ⟨_, rfl⟩
  have hv0 : rv4 (2 * k + 1) = .slice none 0 0 := by rw [← hrv4, upd_ne _ _ (by omega)]; exact H1.out
  have hrvo : ∀ j, j ≠ 2 * k + 2 → rv4 j = rv j := fun j hj => by rw [← hrv4, upd_ne _ _ hj]
  have hx0 : xs4 (2 * k + 1) = [] := by
    rw [← hxs4, upd_ne _ _ (by omega)]
    have := (HA.out.rows (2 * k + 1) (by omega) (by omega)).2
    rw [H1.out] at this
    rcases this with ⟨_, e⟩ | ⟨_, _, _, e, _⟩
    · exact List.eq_nil_of_length_eq_zero e
    · cases e
  have HF1 : Hid (takeF L f k = kidF L (kids L k) fk (kids L k).length) := Lib.hid (by unfold takeF; rw [hf1])
  have HXS : Hid (upd xs (2 * k + 2) (wordsV L V k) = xs4) := Lib.hid hxs4
  rw [hf1, hrv4, hxs4] at hA4
  rw [hrv4] at hTu4
  have hT4 : TrP W4 Bt tb nb nc rvt L V := TrX.of_blocks HT.out fun g hg => hTu4.sep.block g (TrX.lt HT.out hg).2 (HLOW.out g hg)
  have hkL : k < L.length := by have := HNL.out; omega
  have HKD := Lib.hid (kids_tr hT4 (k : Int) (by have := HNL.out; omega))
  have hkv : kidsV L k = (kids L k).map (num L) := by unfold kidsV; rw [if_neg (by unfold out; omega), Int.toNat_natCast]
  rw [hkv] at HKD
  have HA4 := Lib.hid hA4
  have HT4 := Lib.hid hTu4
  have HV0 := Lib.hid hv0
  have HX0 := Lib.hid hx0
  have HRO := Lib.hid hrvo
  have HCH := Lib.hid (fun i hi => kid_child HI.out hkL (i := i) hi)
  have HKM : Hid (∀ i, i < (kids L k).length → (kids L k).getD i 0 < n) := Lib.hid fun i hi => by rw [HNL.out]; exact (kids_mem.1 (gD_mem (d := 0) hi)).1
  have hm9 : (kids L k).length ≤ 1000 := by have := kids_len L k; have := HNL.out; omega
  have HKS := Lib.hid (fun i hi => kidF_succ L (kids L k) fk (i := i) hi)
  have HK0 := Lib.hid (kidF_zero L (kids L k) fk)
  generalize hKe : kids L k = K at *
  have HKE := Lib.hid hKe
  clear hKe
  obtain ⟨m, hm⟩ : ∃ m, K.length = m := ⟨_, rfl⟩
  have HML := Lib.hid hm
  rw [hm] at HKM hm9 HF1
  clear hA4 hTu4 hT4 hkv hv0 hx0 hrvo hf1 hrv4 hxs4 hA1 c0 c1 c2 c3 c4 fr1 fr2 fr4 b0
  go_wp2_with (go_at_call 64; refine HKD.out.mono ?_; rintro e w5 ⟨v, rfl, hown, hb5⟩; have HO5 := Lib.hid hown; have HB5 := Lib.hid hb5; rw [List.length_map, HML.out] at hown; obtain ⟨pa, pc, rfl⟩ := Tr.own_form hown; clear hown hb5)
  obtain ⟨F5, hF5⟩ : ∃ F5, Fa ab sb n rv4 = F5 := ⟨_, rfl⟩
  have hpx : ∀ w', Sep F5 w5 w' → ∀ i, i < m → ∃ b o, pa = some ⟨b, o, none⟩ ∧ w'.cell? ⟨b, o + i, none⟩ = some (.int .u64 (num L (K.getD i 0))) := fun w' hs i hi => by
    have hrow : w'.ownsRow W4.heap.size 39 1 (.slice pa m pc) m ((K.map (num L)).map (Value.int .u64)) := by
      have h0 := HO5.out
      rw [List.length_map, HML.out] at h0
      exact own_of_block h0 fun g hg => hs.block g (h0.lt g hg).2 (fun e => by
        rw [← hF5] at e
        have := (HA4.out.lt e).2
        have := (h0.lt g hg).1
        omega)
    obtain ⟨g, c', ev', _, _⟩ := hrow.form (by omega)
    injection ev' with e1 e2 e3
    rw [e1] at hrow
    refine ⟨g, 0, e1, ?_⟩
    rw [Nat.zero_add, ints_cell hrow hi, gD (by rw [List.length_map, HML.out]; exact hi), gD (by rw [HML.out]; exact hi), List.getElem_map]
  have HPX := Lib.hid hpx
  have hA5 : AuX w5 Ba ab sb n (kidF L K fk 0) (upd rv4 (2 * k + 1) (.slice none 0 0)) (upd xs4 (2 * k + 1) (ints (K.take 0))) := by
    rw [HK0.out, ← HV0.out, upd_self, List.take_zero, show ints [] = xs4 (2 * k + 1) by rw [HX0.out]; rfl, upd_self]
    exact HA4.out.later HB5.out
  have hTu5 : Turn w (Fa ab sb n rv) w5 F5 := by rw [← hF5]; exact turn_below HT4.out HB5.out
  have hT55 : Turn w5 F5 w5 (Fa ab sb n (upd rv4 (2 * k + 1) (.slice none 0 0))) := by
    rw [← hF5, ← HV0.out, upd_self]; exact Turn.refl _ _
  have HA5 := Lib.hid hA5
  have HT5 := Lib.hid hTu5
  have HT55 := Lib.hid hT55
  obtain ⟨i1, hi1, hy0, hy1, hy2⟩ := info_parts Try.info_int
  clear hpx hA5 hTu5 hT55 hF5
  go_loopw [32] (fun s32 wr => ∃ i : Nat, i ≤ m ∧ s32 = .int .i64 i ∧ ∃ v, AuX wr Ba ab sb n (kidF L K fk i) (upd rv4 (2 * k + 1) v) (upd xs4 (2 * k + 1) (ints (K.take i))) ∧ Turn w5 F5 wr (Fa ab sb n (upd rv4 (2 * k + 1) v))) (fun s32 _ => m - (intOf s32).toNat)
  case atStart => exact ⟨0, Nat.zero_le _, rfl, _, HA5.out, HT55.out⟩
  case round =>
    obtain ⟨i, hi, rfl, v, hAr, hTr⟩ := hrel
    have HAr := Lib.hid hAr
    have HTr := Lib.hid hTr
    have b0 := hAr.boxes
    clear hAr hTr
    by_cases hlt : i < m
    · have hltI : (i : Int) < (m : Int) := by omega
      have hi0 : (0 : Int) ≤ (i : Int) := Int.natCast_nonneg _
      obtain ⟨b, o, rfl, hcell⟩ := HPX.out wr HTr.out.sep i hlt
      have hjn := HKM.out i hlt
      have hch := HCH.out i (by rw [HML.out]; exact hlt)
      have hks := HKS.out i (by rw [HML.out]; exact hlt)
      have htk : ints (K.take (i + 1)) = ints (K.take i) ++ [((K.getD i 0 : Nat) : Int)] := by
        unfold ints
        rw [List.take_succ_eq_append_getElem (by rw [HML.out]; exact hlt), gD (by rw [HML.out]; exact hlt), List.map_append, List.map_singleton]
      obtain ⟨j, hj⟩ : ∃ j, K.getD i 0 = j := ⟨_, rfl⟩
      rw [hj] at hcell hjn hch hks htk
      obtain ⟨p, hp⟩ : ∃ p, num L j = p := ⟨_, rfl⟩
      rw [hp] at hcell hch hks
      have hTt : TrP wr Bt tb nb nc rvt L V := TrX.of_blocks HT.out fun g hg => (HT5.out.trans HTr.out).sep.block g (TrX.lt HT.out hg).2 (HLOW.out g hg)
      have HCC := Lib.hid (child_tr hTt HI.out (k : Int) p)
      rw [hch] at HCC
      have HKS2 := Lib.hid hks
      have HTK := Lib.hid htk
      have hjI : (j : Int) < (n : Int) := by omega
      have hj0 : (0 : Int) ≤ (j : Int) := Int.natCast_nonneg _
      clear hch hks htk hj hp hTt
      go_upto_region 7 with (go_at_call 59; refine HCC.out.mono ?_; rintro e w6 ⟨rfl, hb6⟩; have HB6 := Lib.hid hb6; have hA6 := HAr.out.later hb6; have b6 := hA6.boxes; obtain ⟨c0, c1, c2, c3, c4⟩ := hA6.cells hjn; have fr0 := hA6.fr (j * 5); clear hb6 c1 c2 c3 c4)
      have hA7 := (HAr.out.later HB6.out).num hjn p
      have hT7 : Turn w5 F5 (w6.setCell ⟨sb, j * 5, none⟩ (.int .u64 p)) (Fa ab sb n (upd rv4 (2 * k + 1) v)) := (turn_below HTr.out HB6.out).trans (set_turn _ _ _ _ _ _ _)
      obtain ⟨W7, hW7⟩ : ∃ W7, w6.setCell ⟨sb, j * 5, none⟩ (.int .u64 p) = W7 := ⟨_, rfl⟩
      rw [hW7] at hA7 hT7
      try rw [hW7]
      rw [HKS2.out] at hA7
      have hr7 := hA7.rows (2 * k + 1) (by omega) (by omega)
      have hil : (ints (K.take i)).length = i := by unfold ints; rw [List.length_map, List.length_take, HML.out]; omega
      rw [upd_at, upd_at, hil] at hr7
      obtain ⟨ra, rc, rfl⟩ := Tr.own_form hr7
      have c3 := (hA7.cells hk).2.2.2.1
      rw [upd_at] at c3
      have b7 := hA7.boxes
      have fr3 := hA7.fr (k * 5 + 3)
      have hsz7 : Ba ≤ W7.heap.size := by have := hA7.lt (.inl rfl); have := hA7.low; omega
      have HR7 := Lib.hid hr7
      have HA7 := Lib.hid hA7
      have HT7 := Lib.hid hT7
      have c3a := cell_later (box1T W7 (.cells #[.int .i64 (j : Int)] 3)) c3
      have him : i < 1000 := by omega
      clear hA7 hT7 hr7 hW7 hil c0 fr0 b6 hA6 b0
      go_wp2_with (at_builtin; refine wpList_append_lies _ rfl _ _ 29 rfl Ba 3 i1 (.int .i64 0) 1 8 Try.underlying29 hi1 hy0 hy1 hy2 rfl (by decide) (.slice ra i rc) i _ rfl (HR7.out.alloc _) ⟨W7.heap.size, 0, none⟩ 1 1 [.int .i64 (j : Int)] rfl rfl (one_newT2 _ _ _) (by simp [Value.oneCell']) (by omega) (by unfold maxLen; omega) (by omega) (by simp; omega) _ rfl ?_; intro gg cc w8 hown hgrow hat _; have hg8 : W7.grownBy w8 (upd rv4 (2 * k + 1) (.slice ra i rc) (2 * k + 1)).ownBlock := (by rw [upd_at]; exact grown_trans2 hgrow); have hst := AuX.still HA7.out (by omega) (by omega) hg8; have q3 := (hst ⟨sb, k * 5 + 3, none⟩ (.inl rfl)).1.trans c3; have qf := (hst ⟨sb, k * 5 + 3, none⟩ (.inl rfl)).2.trans fr3; have HOWN := Lib.hid hown; have HG8 := Lib.hid hg8; have HAT := Lib.hid hat; clear hown hgrow hat hg8 hst)
      go_roundw
      case rel =>
        have hat8 : (Value.slice (some ⟨gg, 0, none⟩) (i + 1) cc).ownBlock = (upd rv4 (2 * k + 1) (.slice ra i rc) (2 * k + 1)).ownBlock ∨ ∃ g, (Value.slice (some ⟨gg, 0, none⟩) (i + 1) cc).ownBlock = some g ∧ W7.heap.size ≤ g := by
          rcases HAT.out with e | e
          · left; rw [upd_at]; exact e.symm
          · right; exact ⟨gg, rfl, by rw [e]; simp⟩
        have hP := HA7.out.push (i := 2 * k + 1) (by omega) (by omega) (w1 := w8) (v' := .slice (some ⟨gg, 0, none⟩) (i + 1) cc) (ys := ints (K.take (i + 1))) (by
            rw [HTK.out, List.length_append, List.length_singleton, List.map_append]
            have hil : (ints (K.take i)).length = i := by unfold ints; rw [List.length_map, List.length_take, HML.out]; omega
            rw [hil]
            exact HOWN.out) HG8.out.size (fun g hg hne => HG8.out.block g hg (fun e => hne e.symm)) (by
            rcases hat8 with e | ⟨g, e1, e2⟩
            · exact .inl e
            · exact .inr ⟨g, e1, fun hF => by have := (HA7.out.lt hF).2; omega⟩)
        have hQ := HA7.out.push_turn (i := 2 * k + 1) (by omega) (by omega) (w1 := w8) (v' := .slice (some ⟨gg, 0, none⟩) (i + 1) cc) HG8.out hat8 (k * 5 + 3) (.slice (some ⟨gg, 0, none⟩) (i + 1) cc)
        rw [at5_kids, upd_upd, upd_upd] at hP
        rw [upd_upd] at hQ
        exact ⟨i + 1, by omega, by go_num, _, hP, HT7.out.trans hQ⟩
      case measure => simp [intOf]; omega
    · obtain rfl : i = m := by omega
      have hltI : ¬ (i : Int) < (i : Int) := by omega
      go_wp2
      go_end0
      have hfin := HAr.out
      rw [List.take_of_length_le (by rw [HML.out]; exact Nat.le_refl _)] at hfin
      rw [HF1.out, HXS.out, HKE.out]
      exact ⟨rfl, _, hfin, fun j h1 h2 => by rw [upd_ne _ _ h1]; exact HRO.out j h2, HT5.out.trans HTr.out⟩
end Go.Proofs.Ytehmbnloplamaaa

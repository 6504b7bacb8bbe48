/- Which kinds may tell images of a format: of image and of the document, over any memory. Condition: the numbers fit. -/
import Derived.Test.YtkjkepnailamnaaGreatZgAD
import Derived.Test.YtkjkepnailamnaaGreatZHedN
import Derived.Test.YtkjkepnailamnaaGreatZgAB
import Derived.Test.YtkjkepnailamnaaGreatZgAA
import Derived.Deep.RegionHeld3
import Derived.Deep.DeepCutAuto
import Derived.BigQuiet
import Derived.Deep.QuietTactic
import Derived.Laws.EntriesVeiled
import Derived.Deep.AppendLies
import Derived.Deep.RegionLaw
import Derived.Test.YtkjkepnailamnaaGreatZgAC
import Derived.Test.YtkjkepnailamnaaGreatZHedV
namespace Go.Proofs.YtkjkepnailamnaaGreat
open Go.RowKit
set_option linter.unusedVariables false
def Im.tellsV (h : Hd.H) (c m : Int) : Bool := decide (Hd.May h) && Hj.same2 (Hj.chan h) h.m c m
def Im.tellK (c m k : Int) : Bool := Im.tellsV ⟨k, 1, 1, m⟩ c m
def Im.kn (p : Int → Bool) : Nat → List Int
  | 0 => []
  | i + 1 => Im.kn p i ++ (if p ((i : Int) + 1) then [(i : Int) + 1] else [])
def Im.kindsV (c m : Int) : List Int := Im.kn (Im.tellK c m) 6
theorem Im.kn_len (p : Int → Bool) : ∀ i, (Im.kn p i).length ≤ i
  | 0 => Nat.le_refl _
  | i + 1 => by
    have := Im.kn_len p i
    unfold Im.kn
    rw [List.length_append]
    split <;> simp <;> omega
theorem Im.kn_same {p q : Int → Bool} : ∀ i : Nat, (∀ k : Nat, k < i → p ((k : Int) + 1) = q ((k : Int) + 1)) → Im.kn p i = Im.kn q i
  | 0, _ => rfl
  | i + 1, h => by
    unfold Im.kn
    rw [Im.kn_same i fun k hk => h k (by omega), h i (by omega)]
theorem Im.kn_none {p : Int → Bool} : ∀ i : Nat, (∀ k : Nat, k < i → p ((k : Int) + 1) = false) → Im.kn p i = []
  | 0, _ => rfl
  | i + 1, h => by
    unfold Im.kn
    rw [Im.kn_none i fun k hk => h k (by omega), h i (by omega)]
    rfl
theorem Im.kn_mem {p : Int → Bool} : ∀ (i : Nat) (k : Int), k ∈ Im.kn p i ↔ (1 ≤ k ∧ k ≤ i) ∧ p k = true
  | 0, k => by simp [Im.kn]; omega
  | i + 1, k => by
    unfold Im.kn
    rw [List.mem_append, Im.kn_mem i k]
    by_cases h : p ((i : Int) + 1) = true
    · rw [if_pos h, List.mem_singleton]
      constructor
      · rintro (⟨h1, h2⟩ | rfl)
        · exact ⟨by omega, h2⟩
        · exact ⟨by omega, h⟩
      · rintro ⟨h1, h2⟩
        by_cases e : k = (i : Int) + 1
        · exact .inr e
        · exact .inl ⟨by omega, h2⟩
    · rw [if_neg h]
      constructor
      · rintro (⟨h1, h2⟩ | h2)
        · exact ⟨by omega, h2⟩
        · cases h2
      · rintro ⟨h1, h2⟩
        by_cases e : k = (i : Int) + 1
        · rw [e] at h2; exact absurd h2 h
        · exact .inl ⟨by omega, h2⟩
def Im.refK (c m k : Int) : Bool := ((k % 3 == 0) == (c == 3)) && ((k % 3 != 1) || (m == 1))
theorem Im.tell_ref (c m : Int) : ∀ k : Nat, k < 6 → Im.tellK c m ((k : Int) + 1) = (Pq.Px.formatV c m && Im.refK c m ((k : Int) + 1)) := by
  intro k hk
  have h6 : k = 0 ∨ k = 1 ∨ k = 2 ∨ k = 3 ∨ k = 4 ∨ k = 5 := by omega
  rw [Bool.eq_iff_iff]
  rcases h6 with rfl | rfl | rfl | rfl | rfl | rfl <;>
    simp [Im.tellK, Im.tellsV, Hd.May, Hd.bits, Hj.chan, Hj.same2, Pq.Px.formatV, Im.refK] <;> omega
theorem Im.kinds_ref (c m : Int) : Im.kindsV c m = if Pq.Px.formatV c m = true then Im.kn (Im.refK c m) 6 else [] := by
  unfold Im.kindsV
  by_cases h : Pq.Px.formatV c m = true
  · rw [if_pos h]
    exact Im.kn_same 6 fun k hk => by rw [Im.tell_ref c m k hk, h, Bool.true_and]
  · rw [if_neg h]
    exact Im.kn_none 6 fun k hk => by rw [Im.tell_ref c m k hk]; simp [h]
set_option maxHeartbeats 1000000 in
theorem imTells_any (h : Hd.H) (hf : Hj.Fit h) (c m : Int) (w : World) :
    Calls Tryz.prog 70 #[agH h, .agg #[.int .i64 c, .int .i64 m]] w fun e w' => e = .returned (.bool (Im.tellsV h c m)) ∧ Below w.heap.size w w' := by
  have HM := Lib.hid (hmay_any h hf)
  have E := feq_run (Hj.chan h) h.m c m
  have G := feq_guard
  have HFm : Hid (Hd.May h → ∀ W, Calls Tryz.prog 59 #[agH h] W fun e w' => e = .returned (Hj.fm h) ∧ Below W.heap.size W w') := Lib.hid fun hm W => hformat_any h hm W
  unfold Im.tellsV
  obtain ⟨q, hq⟩ : ∃ q, Hj.same2 (Hj.chan h) h.m c m = q := ⟨_, rfl⟩
  rw [hq] at E ⊢
  unfold Hj.fm at HFm
  obtain ⟨ch, hch⟩ : ∃ ch, Hj.chan h = ch := ⟨_, rfl⟩
  rw [hch] at E HFm
  obtain ⟨mm, hmm⟩ : ∃ mm, decide (Hd.May h) = mm := ⟨_, rfl⟩
  have HMM : Hid (mm = true → Hd.May h) := Lib.hid fun e => by rw [← hmm] at e; exact of_decide_eq_true e
  rw [hmm] at HM ⊢
  clear hmm
  obtain ⟨kd, ww, hh, mx⟩ := h
  unfold agH at HM HFm ⊢
  simp only at E HM HFm ⊢
  have hB0 : Below w.heap.size w ((w.alloc (.cells #[.int .i64 kd, .int .i64 ww, .int .i64 hh, .int .i64 mx] 62)).alloc (.cells #[.int .i64 c, .int .i64 m] 29)) := box2 w _ _
  have X := (Hb.new w 62 ⟨kd, ww, hh, mx⟩).alloc (.cells #[.int .i64 c, .int .i64 m] 29)
  obtain ⟨n0, n1, n2, n3⟩ := X.cells
  simp only at n0 n1 n2 n3
  clear X hq hch hf
  go_enter Tryz.func70, Tryz.ntmps70
  go_upto_region 1 with fail
  obtain ⟨W, hW⟩ : ∃ W, (w.alloc (.cells #[.int .i64 kd, .int .i64 ww, .int .i64 hh, .int .i64 mx] 62)).alloc (.cells #[.int .i64 c, .int .i64 m] 29) = W := ⟨_, rfl⟩
  have l0 : W.cell? ⟨w.heap.size + 1, 0, none⟩ = some (.int .i64 c) := by rw [← hW]; simp [go_sem]
  have l1 : W.cell? ⟨w.heap.size + 1, 1, none⟩ = some (.int .i64 m) := by rw [← hW]; simp [go_sem]
  try rw [hW]
  rw [hW] at hB0 n0 n1 n2 n3
  clear hW
  have hBr : Below W.heap.size W W := .refl _ _
  cases mm with
  | true =>
    have HF' := Lib.hid (HFm.out (HMM.out rfl))
    clear HFm HMM
    go_region_held3 (fun w' => w'.cell? ⟨w.heap.size, 0, none⟩ = some (.int .i64 kd) ∧ w'.cell? ⟨w.heap.size, 1, none⟩ = some (.int .i64 ww) ∧ w'.cell? ⟨w.heap.size, 2, none⟩ = some (.int .i64 hh) ∧ w'.cell? ⟨w.heap.size, 3, none⟩ = some (.int .i64 mx) ∧ w'.cell? ⟨w.heap.size + 1, 0, none⟩ = some (.int .i64 c) ∧ w'.cell? ⟨w.heap.size + 1, 1, none⟩ = some (.int .i64 m))
      (first | exact ⟨n0, n1, n2, n3, l0, l1⟩ | exact ⟨cell_later hBr n0, cell_later hBr n1, cell_later hBr n2, cell_later hBr n3, cell_later hBr l0, cell_later hBr l1⟩)
      (first
        | (go_at_call 115; refine (HM.out _).mono ?_; rintro e w9 ⟨rfl, hb9⟩; replace hBr := bel_step (w := W) (by first | exact hBr | exact hBr.drew) hb9)
        | (go_at_call 59; refine (HF'.out _).mono ?_; rintro e w9 ⟨rfl, hb9⟩; replace hBr := bel_step (w := W) (by first | exact hBr | exact hBr.drew) hb9))
    all_goals
      go_wp2
      go_ret
      exact ⟨by simp, hB0.trans (hBr.mono hB0.size)⟩
  | false =>
    clear HFm E HMM
    go_region_with (first | (go_at_call 115; refine (HM.out _).mono ?_; rintro e w9 ⟨rfl, hb9⟩; replace hBr := bel_step (w := W) (by first | exact hBr | exact hBr.drew) hb9))
    all_goals
      go_wp2
      go_ret
      exact ⟨by first | rfl | simp, hB0.trans (hBr.mono hB0.size)⟩
theorem Im.kn_int (p : Int → Bool) (i : Nat) {w w' : World} {base : Nat} {v : Value} (h : w'.ownsRow base 3 1 v (Im.kn p i).length ((Im.kn p i).map (Value.int .i64))) (hB : Below w.heap.size w w') (hb : w.heap.size ≤ base) : Bt.LsR (Im.kn p i) w (.returned v) w' := by
  obtain ⟨ad, cap, rfl, hown, hcap⟩ := ownK_row rfl h
  exact ⟨ad, cap, rfl, ownsRow_base h hb, hB⟩
end Go.Proofs.YtkjkepnailamnaaGreat
namespace Go.Proofs.YtkjkepnailamnaaGreat
open Go.RowKit
set_option linter.unusedVariables false
theorem Im.refK_p {c m k : Int} {q : Bool} (h : ((k % 3 == 0) == (c == 3)) = q) : Im.refK c m k = (q && ((k % 3 != 1) || (m == 1))) := by unfold Im.refK; rw [h]
set_option maxRecDepth 100000 in
set_option maxHeartbeats 4000000 in
theorem refKinds_any (c m : Int) (hc : Nu.I c) (hm : Nu.I m) (w : World) :
    Calls Tryz.prog 13 #[.agg #[.int .i64 c, .int .i64 m]] w (Bt.LsR (Im.kindsV c m) w) := by
  obtain ⟨i0, hi, hz0, hz1, hz2⟩ := info_parts Bt.Tryz.info_int
  have HFo := Lib.hid (Pq.refFormat_any c m)
  rw [Im.kinds_ref]
  have hbx := box1 w (.cells #[.int .i64 c, .int .i64 m] 29)
  have d0 : (w.alloc (.cells #[.int .i64 c, .int .i64 m] 29)).cell? ⟨w.heap.size, 0, none⟩ = some (.int .i64 c) := by simp [go_sem]
  have d1 : (w.alloc (.cells #[.int .i64 c, .int .i64 m] 29)).cell? ⟨w.heap.size, 1, none⟩ = some (.int .i64 m) := by simp [go_sem]
  have d2 : w.heap.size < (w.alloc (.cells #[.int .i64 c, .int .i64 m] 29)).heap.size := by simp
  clear hc hm
  obtain ⟨fm, hfm⟩ : ∃ fm, Pq.Px.formatV c m = fm := ⟨_, rfl⟩
  rw [hfm] at HFo ⊢
  clear hfm
  go_enter Tryz.func13, Tryz.ntmps13
  cases fm with
  | false =>
    rw [if_neg (by simp)]
    go_wp2_with (go_at_call 52; refine (HFo.out _).mono ?_; rintro e w3 ⟨rfl, hb3⟩; have hbz := hbx.trans (hb3.mono hbx.size))
    go_ret
    exact Im.kn_int (fun _ => true) 0 (World.ownsRow_nil _ w.heap.size _ _) hbz (Nat.le_refl _)
  | true =>
  rw [if_pos rfl]
  obtain ⟨p, hp⟩ : ∃ p, Im.refK c m = p := ⟨_, rfl⟩
  have HP : Hid (∀ k, Im.refK c m k = p k) := Lib.hid fun k => by rw [hp]
  rw [hp]
  clear hp
  go_wp2_with (go_at_call 52; refine (HFo.out _).mono ?_; rintro e W0 ⟨rfl, hb3⟩; replace hbx := hbx.trans (hb3.mono hbx.size); replace d0 := cell_later hb3 d0; replace d1 := cell_later hb3 d1; replace d2 := Nat.lt_of_lt_of_le d2 hb3.size; clear hb3)
  have HBX := Lib.hid hbx
  clear hbx
  go_loopg [4, 5] 6 (fun g s3 s4 wr => ∃ i : Nat, i + g = 6 ∧ s4 = .int .i64 ((i : Int) + 1) ∧ wr.ownsRow W0.heap.size 3 1 s3 (Im.kn p i).length ((Im.kn p i).map (Value.int .i64)) ∧ Below W0.heap.size W0 wr)
  case atStart => exact ⟨0, rfl, rfl, World.ownsRow_nil _ _ _ _, Below.refl _ _⟩
  case round =>
    obtain ⟨i, hig, rfl, hrow, hB⟩ := hrel
    have k0 : (0 : Int) ≤ i := Int.natCast_nonneg _
    have c0 := cell_later hB d0
    have c1 := cell_later hB d1
    cases gk with
    | zero =>
      obtain rfl : i = 6 := by omega
      have HF := Lib.hid (Im.kn_int p 6 hrow (HBX.out.trans (hB.mono HBX.out.size)) (Nat.le_of_lt d2))
      clear hrow hB
      go_wp2
      go_ret
      exact HF.out
    | succ g =>
      have h6 : (i : Int) + 1 ≤ 6 := by omega
      have HR := Lib.hid hrow
      have hS := Im.kn_len p i
      have HSt : Hid (Im.kn p (i + 1) = Im.kn p i ++ (if p ((i : Int) + 1) then [(i : Int) + 1] else [])) := Lib.hid rfl
      obtain ⟨n, hn⟩ : ∃ n, (Im.kn p i).length = n := ⟨_, rfl⟩
      rw [hn] at HR hS
      have HN := Lib.hid hn
      obtain ⟨P, hP⟩ : ∃ P, ((((i : Int) + 1) % 3 == 0) == (c == 3)) = P := ⟨_, rfl⟩
      obtain ⟨Q, hQ⟩ : ∃ Q, (((i : Int) + 1) % 3 != 1) = Q := ⟨_, rfl⟩
      obtain ⟨R, hR⟩ : ∃ R, (m == 1) = R := ⟨_, rfl⟩
      have HV : Hid (p ((i : Int) + 1) = (P && (Q || R))) := Lib.hid (by rw [← HP.out, Im.refK_p hP, hQ, hR])
      clear hrow hn
      cases P with
      | false =>
        have HV2 : Hid (p ((i : Int) + 1) = false) := Lib.hid (by have := HV.out; simpa using this)
        go_wp2_with fail
        go_roundg g
        case measure => omega
        case rel =>
          refine ⟨i + 1, by omega, by go_num, ?_, hB⟩
          rw [HSt.out, if_neg (by rw [HV2.out]; simp), List.append_nil, HN.out]
          exact HR.out
      | true =>
        cases Q with
        | true =>
          have HV2 : Hid (p ((i : Int) + 1) = true) := Lib.hid HV.out
          go_wp2_with (at_builtin; refine wpList_append_own _ rfl _ _ 25 rfl W0.heap.size 3 i0 (.int .i64 0) 1 8 Tryz.underlying25 hi hz0 hz1 hz2 rfl (by decide) _ n _ rfl (HR.out.alloc _) ⟨_, 0, none⟩ 1 1 [.int .i64 ((i : Int) + 1)] rfl rfl (cell_one_new _ _ _) (by simp [Value.oneCell']) (by unfold maxLen; omega) (by have := hB.size; omega) (by simp; have := hB.size; omega) ?_; intro v' w4 hown' hgrow _; have HO := Lib.hid hown'; have hB4 := ((hB.alloc hB.size _).grown hgrow (by simp; have := hB.size; omega) (fun j ej => (HR.out.lt j ej).1)); clear hown' hgrow)
          go_roundg g
          case measure => omega
          case rel =>
            refine ⟨i + 1, by omega, by go_num, ?_, hB4⟩
            have := HO.out
            rw [HSt.out, if_pos HV2.out, List.map_append, List.length_append, HN.out]
            exact this
        | false =>
          cases R with
          | true =>
            have HV2 : Hid (p ((i : Int) + 1) = true) := Lib.hid HV.out
            go_wp2_with (at_builtin; refine wpList_append_own _ rfl _ _ 25 rfl W0.heap.size 3 i0 (.int .i64 0) 1 8 Tryz.underlying25 hi hz0 hz1 hz2 rfl (by decide) _ n _ rfl (HR.out.alloc _) ⟨_, 0, none⟩ 1 1 [.int .i64 ((i : Int) + 1)] rfl rfl (cell_one_new _ _ _) (by simp [Value.oneCell']) (by unfold maxLen; omega) (by have := hB.size; omega) (by simp; have := hB.size; omega) ?_; intro v' w4 hown' hgrow _; have HO := Lib.hid hown'; have hB4 := ((hB.alloc hB.size _).grown hgrow (by simp; have := hB.size; omega) (fun j ej => (HR.out.lt j ej).1)); clear hown' hgrow)
            go_roundg g
            case measure => omega
            case rel =>
              refine ⟨i + 1, by omega, by go_num, ?_, hB4⟩
              have := HO.out
              rw [HSt.out, if_pos HV2.out, List.map_append, List.length_append, HN.out]
              exact this
          | false =>
            have HV2 : Hid (p ((i : Int) + 1) = false) := Lib.hid HV.out
            go_wp2_with fail
            go_roundg g
            case measure => omega
            case rel =>
              refine ⟨i + 1, by omega, by go_num, ?_, hB⟩
              rw [HSt.out, if_neg (by rw [HV2.out]; simp), List.append_nil, HN.out]
              exact HR.out
end Go.Proofs.YtkjkepnailamnaaGreat
namespace Go.Proofs.YtkjkepnailamnaaGreat
open Go.RowKit
set_option linter.unusedVariables false
theorem Im.mem_kinds {c m k : Int} : k ∈ Im.kindsV c m ↔ Im.tellK c m k = true := by
  unfold Im.kindsV
  rw [Im.kn_mem]
  constructor
  · exact fun h => h.2
  · intro h
    refine ⟨?_, h⟩
    simp only [Im.tellK, Im.tellsV, Bool.and_eq_true, decide_eq_true_eq] at h
    exact h.1.1
theorem Im.tells_may {c m W H k : Int} {n : Nat} {L : List Int} (h : Im.mayV c m W H n L = true) : Im.tellsV ⟨k, W, H, m⟩ c m = Im.tellK c m k := by
  unfold Im.mayV at h
  rw [Bool.and_eq_true, Rc.mayV_iff] at h
  obtain ⟨⟨h1, h2, h3, h4, h5⟩, _⟩ := h.1
  rw [Bool.eq_iff_iff]
  simp only [Im.tellK, Im.tellsV, Bool.and_eq_true, decide_eq_true_eq]
  unfold Hd.May Hj.chan
  simp only
  constructor
  · rintro ⟨⟨a, b, d, e⟩, f⟩
    exact ⟨⟨a, ⟨by omega, by omega⟩, ⟨by omega, by omega⟩, e⟩, f⟩
  · rintro ⟨⟨a, b, d, e⟩, f⟩
    exact ⟨⟨a, ⟨h1, h2⟩, ⟨h3, h4⟩, e⟩, f⟩
def Im.tellV (c m W H : Int) (n : Nat) (L : List Int) (k : Int) : Bool := Im.tellK c m k && Im.mayV c m W H n L
set_option maxRecDepth 100000 in
set_option maxHeartbeats 1000000 in
theorem refTells_any (c m W H : Int) (hc : Nu.I c) (hm : Nu.I m) (a : Option Addr) (n cap : Nat) (L : List Int) (hn : n ≤ 9223372036854775807) (hU : ∀ x ∈ L, Pq.Px.U x) (kd : Int) (w : World) (hs : SlK .u64 w a n L) :
    Calls Tryz.prog 53 #[agI c m W H (.slice a n cap), .int .i64 kd] w fun e w' => e = .returned (.bool (Im.tellV c m W H n L kd)) ∧ Below w.heap.size w w' := by
  have HK := Lib.hid (refKinds_any c m hc hm)
  have HMy : Hid (∀ W9, Below w.heap.size w W9 → Calls Tryz.prog 24 #[agI c m W H (.slice a n cap)] W9 fun e w' => e = .returned (.bool (Im.mayV c m W H n L)) ∧ Below W9.heap.size W9 w') := Lib.hid fun W9 hb => refImMay_any c m W H a n cap L hn hU W9 (hs.below hb)
  have HM := Lib.hid (fun (k : Int) => @Im.mem_kinds c m k)
  have hlen := Im.kn_len (Im.tellK c m) 6
  unfold Im.tellV
  obtain ⟨l, hl⟩ : ∃ l, Im.kindsV c m = l := ⟨_, rfl⟩
  unfold Im.kindsV at hl
  rw [hl] at hlen
  unfold Im.kindsV at HK HM
  rw [hl] at HK HM
  have HM : Hid (∀ k, k ∈ l ↔ Im.tellK c m k = true) := HM
  obtain ⟨q, hq⟩ : ∃ q, Im.tellK c m kd = q := ⟨_, rfl⟩
  have HQ : Hid (kd ∈ l ↔ q = true) := Lib.hid (by rw [← hq]; exact HM.out kd)
  obtain ⟨r, hr⟩ : ∃ r, Im.mayV c m W H n L = r := ⟨_, rfl⟩
  rw [hr] at HMy ⊢
  rw [hq]
  clear HM hq hr hl hs hU
  have X := Ib.new w 34 c m W H (.slice a n cap)
  have hbx := box1 w (.cells #[.int .i64 c, .int .i64 m, .int .i64 W, .int .i64 H, .slice a n cap] 34)
  obtain ⟨W0, hW0⟩ : ∃ W0, w.alloc (.cells #[.int .i64 c, .int .i64 m, .int .i64 W, .int .i64 H, .slice a n cap] 34) = W0 := ⟨_, rfl⟩
  unfold agI at HMy ⊢
  go_enter Tryz.func53, Tryz.ntmps53
  go_upto_region 1 with fail
  rw [hW0] at X hbx
  try rw [hW0]
  clear hW0
  obtain ⟨n0, n1, n2, n3, n4⟩ := X.cells
  go_wp2_with fail
  refine (HK.out _).mono ?_
  unfold Bt.LsR
  rintro e w2 ⟨ad, cp, rfl, hown, hb2⟩
  replace X := X.later hb2
  replace hbx := hbx.trans (hb2.mono hbx.size)
  have HBX := Lib.hid hbx
  have hsl : SlK .i64 w2 ad l.length l := by
    obtain ⟨a9, c9, e9, hk9, _⟩ := ownK_row rfl hown
    cases e9
    exact hk9.sl
  have HSL := Lib.hid hsl
  obtain ⟨N, hN⟩ : ∃ N, l.length = N := ⟨_, rfl⟩
  rw [hN] at hlen
  have HN := Lib.hid hN
  clear hown hb2 hsl n0 n1 n2 n3 n4
  try rw [hN]
  clear hN
  go_wp2_with fail
  go_loopg [6] N (fun g s6 wr => ∃ i : Nat, i + g = N ∧ s6 = .int .i64 (i : Int) ∧ (∀ k, k < i → l.getD k 0 ≠ kd) ∧ wr = w2)
  case atStart => exact ⟨0, by omega, rfl, fun k hk => by omega, rfl⟩
  case round =>
    obtain ⟨i, hig, rfl, hno, rfl⟩ := hrel
    have k0 : (0 : Int) ≤ i := Int.natCast_nonneg _
    cases gk with
    | zero =>
      obtain rfl : i = N := by omega
      have HF : Hid (q = false) := Lib.hid (by
        cases q with
        | false => rfl
        | true =>
          obtain ⟨k, hk, e⟩ := List.getElem_of_mem (HQ.out.2 rfl)
          have := hno k (by have := HN.out; omega)
          rw [List.getD_eq_getElem?_getD, List.getElem?_eq_getElem hk] at this
          exact absurd e this)
      clear hno
      go_wp2
      go_ret
      exact ⟨by rw [HF.out]; rfl, HBX.out⟩
    | succ g =>
      have hlt : i < N := by omega
      obtain ⟨g5, o5, rfl, hcell⟩ := slk_pos HSL.out (by have := HN.out; omega)
      have hci := hcell i (by have := HN.out; omega)
      obtain ⟨x, hx⟩ : ∃ x, l.getD i 0 = x := ⟨_, rfl⟩
      have HX := Lib.hid hx
      have HNO := Lib.hid hno
      have hmem : Hid (x ∈ l) := Lib.hid (by rw [← hx, List.getD_eq_getElem?_getD, List.getElem?_eq_getElem (by have := HN.out; omega)]; exact List.getElem_mem _)
      rw [hx] at hci
      clear hcell hx hno
      by_cases hxk : x = kd
      · subst hxk
        have HF : Hid (q = true) := Lib.hid (HQ.out.1 hmem.out)
        have hld := load_ri X
        unfold agI at hld
        obtain ⟨n0, n1, n2, n3, n4⟩ := X.cells
        clear hlt
        go_wp2_with (go_at_call 24; refine (HMy.out _ HBX.out).mono ?_; rintro e w3 ⟨rfl, hb3⟩)
        go_ret
        exact ⟨by rw [HF.out]; simp, HBX.out.trans (hb3.mono HBX.out.size)⟩
      · have hxb : (x == kd) = false := by simpa using hxk
        go_wp2_with fail
        go_roundg g
        case measure => omega
        case rel =>
          refine ⟨i + 1, by omega, by go_num, fun k hk => ?_, rfl⟩
          by_cases e : k = i
          · rw [e, HX.out]; exact hxk
          · exact HNO.out k (by omega)
def Im.headV (c m W H : Int) (n : Nat) (L : List Int) (k : Int) : Hd.H × Int := if Im.tellV c m W H n L k = true then (⟨k, W, H, m⟩, 0) else (Hd.none, 1)
def ImHeadR (t : Hd.H × Int) (w : World) (e : Ending) (w' : World) : Prop := e = .returned (.tuple #[agH t.1, .int .i64 t.2]) ∧ Below w.heap.size w w'
set_option maxRecDepth 100000 in
set_option maxHeartbeats 2000000 in
theorem imHead_any (c m W H : Int) (hc : Nu.I c) (hm : Nu.I m) (hW : Nu.I W) (hH : Nu.I H) (a : Option Addr) (n cap : Nat) (L : List Int) (hn : n ≤ 9223372036854775807) (hU : ∀ x ∈ L, Pq.Px.U x) (kd : Int) (hk : Nu.I kd) (w : World) (hs : SlK .u64 w a n L) :
    Calls Tryz.prog 26 #[agI c m W H (.slice a n cap), .int .i64 kd] w (ImHeadR (Im.headV c m W H n L kd) w) := by
  have HMy : Hid (∀ W9, Below w.heap.size w W9 → Calls Tryz.prog 22 #[agI c m W H (.slice a n cap)] W9 fun e w' => e = .returned (.bool (Im.mayV c m W H n L)) ∧ Below W9.heap.size W9 w') := Lib.hid fun W9 hb => imMay_any c m W H a n cap L hn hU W9 (hs.below hb)
  have HT := Lib.hid (imTells_any ⟨kd, W, H, m⟩ ⟨hk, hW, hH, hm⟩ c m)
  obtain ⟨T, hT⟩ : ∃ T, Im.headV c m W H n L kd = T := ⟨_, rfl⟩
  have HTT : Hid (T = if Im.tellV c m W H n L kd = true then (⟨kd, W, H, m⟩, 0) else (Hd.none, 1)) := Lib.hid (by rw [← hT]; rfl)
  rw [hT]
  unfold Im.tellV at HTT
  obtain ⟨r, hr⟩ : ∃ r, Im.mayV c m W H n L = r := ⟨_, rfl⟩
  obtain ⟨q, hq⟩ : ∃ q, Im.tellsV ⟨kd, W, H, m⟩ c m = q := ⟨_, rfl⟩
  have HRQ : Hid (r = true → Im.tellK c m kd = q) := Lib.hid fun h => by rw [← hq]; exact (Im.tells_may (by rw [hr]; exact h)).symm
  rw [hr] at HMy HTT
  rw [hq] at HT
  unfold ImHeadR
  have X := (Ib.new w 46 c m W H (.slice a n cap)).later (box1 _ (.cells #[.int .i64 0, .int .i64 0, .int .i64 0, .int .i64 0] 62))
  have hbx := box2 w (.cells #[.int .i64 c, .int .i64 m, .int .i64 W, .int .i64 H, .slice a n cap] 46) (.cells #[.int .i64 0, .int .i64 0, .int .i64 0, .int .i64 0] 62)
  have Z := Hb.new (w.alloc (.cells #[.int .i64 c, .int .i64 m, .int .i64 W, .int .i64 H, .slice a n cap] 46)) 62 Hd.none
  rw [show (w.alloc (.cells #[.int .i64 c, .int .i64 m, .int .i64 W, .int .i64 H, .slice a n cap] 46)).heap.size = w.heap.size + 1 by simp] at Z
  have Z : Hb ((w.alloc (.cells #[.int .i64 c, .int .i64 m, .int .i64 W, .int .i64 H, .slice a n cap] 46)).alloc (.cells #[.int .i64 0, .int .i64 0, .int .i64 0, .int .i64 0] 62)) (w.heap.size + 1) 62 Hd.none := Z
  obtain ⟨W0, hW0⟩ : ∃ W0, (w.alloc (.cells #[.int .i64 c, .int .i64 m, .int .i64 W, .int .i64 H, .slice a n cap] 46)).alloc (.cells #[.int .i64 0, .int .i64 0, .int .i64 0, .int .i64 0] 62) = W0 := ⟨_, rfl⟩
  have hsz : W0.heap.size = w.heap.size + 2 := by rw [← hW0]; simp
  unfold agI at HMy ⊢
  unfold agH at HT
  simp only at HT
  go_enter Tryz.func26, Tryz.ntmps26
  go_upto_region 1 with fail
  rw [hW0] at X hbx Z
  try rw [hW0]
  clear hW0 hT hr hq hs hU
  obtain ⟨n0, n1, n2, n3, n4⟩ := X.cells
  go_upto_region 2 with fail
  have Y := Hb.new W0 62 ⟨kd, W, H, m⟩
  have hb1 := box1 W0 (.cells #[.int .i64 kd, .int .i64 W, .int .i64 H, .int .i64 m] 62)
  simp only at Y
  rw [hsz] at Y
  obtain ⟨W1, hW1⟩ : ∃ W1, W0.alloc (.cells #[.int .i64 kd, .int .i64 W, .int .i64 H, .int .i64 m] 62) = W1 := ⟨_, rfl⟩
  rw [hW1] at Y hb1
  try rw [hW1]
  try rw [hsz]
  clear hW1 n0 n1 n2 n3 n4
  replace X := X.later hb1
  replace Z := Z.later hb1
  replace hbx := hbx.trans (hb1.mono hbx.size)
  clear hb1 hsz
  have hld := load_im X
  unfold agI at hld
  obtain ⟨n0, n1, n2, n3, n4⟩ := X.cells
  cases r with
  | false =>
    go_wp2_with (go_at_call 22; refine (HMy.out _ hbx).mono ?_; rintro e w3 ⟨rfl, hb3⟩; replace Z := Z.later hb3; replace hbx := hbx.trans (hb3.mono hbx.size); obtain ⟨z0, z1, z2, z3⟩ := Z.cells; obtain ⟨f0, f1, f2, f3⟩ := Z.fr)
    (try simp only [Exit.inBlock, Exit.then])
    refine bodyPost_ret (ret_cell2 Tryz.results26 _ _ _ _ rfl (load_hd (Z.put Hd.none))) rfl ?_
    refine ⟨by rw [HTT.out, if_neg (by simp)]; rfl, (((hbx.setCell (by simp) _).setCell (by simp) _).setCell (by simp) _).setCell (by simp) _⟩
  | true =>
    have HRQ := Lib.hid (HRQ.out rfl)
    cases q with
    | false =>
      go_wp2_with (first | (go_at_call 22; refine (HMy.out _ hbx).mono ?_; rintro e w3 ⟨rfl, hb3⟩; replace X := X.later hb3; replace Y := Y.later hb3; replace Z := Z.later hb3; replace hbx := hbx.trans (hb3.mono hbx.size); obtain ⟨n0, n1, n2, n3, n4⟩ := X.cells; obtain ⟨y0, y1, y2, y3⟩ := Y.cells; simp only at y0 y1 y2 y3) | (go_at_call 70; refine (HT.out _).mono ?_; rintro e w3 ⟨rfl, hb3⟩; replace Z := Z.later hb3; replace hbx := hbx.trans (hb3.mono hbx.size); obtain ⟨z0, z1, z2, z3⟩ := Z.cells; obtain ⟨f0, f1, f2, f3⟩ := Z.fr))
      (try simp only [Exit.inBlock, Exit.then])
      refine bodyPost_ret (ret_cell2 Tryz.results26 _ _ _ _ rfl (load_hd (Z.put Hd.none))) rfl ?_
      refine ⟨by rw [HTT.out, HRQ.out, if_neg (by simp)] <;> first | rfl | trivial, (((hbx.setCell (by simp) _).setCell (by simp) _).setCell (by simp) _).setCell (by simp) _⟩
    | true =>
      go_wp2_with (first | (go_at_call 22; refine (HMy.out _ hbx).mono ?_; rintro e w3 ⟨rfl, hb3⟩; replace X := X.later hb3; replace Y := Y.later hb3; replace Z := Z.later hb3; replace hbx := hbx.trans (hb3.mono hbx.size); obtain ⟨n0, n1, n2, n3, n4⟩ := X.cells; obtain ⟨y0, y1, y2, y3⟩ := Y.cells; simp only at y0 y1 y2 y3) | (go_at_call 70; refine (HT.out _).mono ?_; rintro e w3 ⟨rfl, hb3⟩; replace Y := Y.later hb3; replace Z := Z.later hb3; replace hbx := hbx.trans (hb3.mono hbx.size); obtain ⟨z0, z1, z2, z3⟩ := Z.cells; obtain ⟨f0, f1, f2, f3⟩ := Z.fr; obtain ⟨y0, y1, y2, y3⟩ := Y.cells; simp only at y0 y1 y2 y3))
      (try simp only [Exit.inBlock, Exit.then])
      refine bodyPost_ret (ret_cell2 Tryz.results26 _ _ _ _ rfl (load_hd (Z.put ⟨kd, W, H, m⟩))) rfl ?_
      refine ⟨by rw [HTT.out, HRQ.out, if_pos (by simp)] <;> first | rfl | trivial, (((hbx.setCell (by simp) _).setCell (by simp) _).setCell (by simp) _).setCell (by simp) _⟩
end Go.Proofs.YtkjkepnailamnaaGreat
namespace Go.Proofs.YtkjkepnailamnaaGreat
open Go.RowKit
set_option linter.unusedVariables false
def PlC (w : World) (b : Nat) (h : Hd.H) (n : Int) (sv rv : Value) (rows t f : Int) (x : Value) : Prop :=
  w.heap[b]? = some (.cells #[.int .i64 h.kd, .int .i64 h.w, .int .i64 h.h, .int .i64 h.m, .int .i64 n, sv, rv, .int .i64 rows, .int .i64 t, .int .i64 f, x] 200 (0, 0))
section
variable {w w' : World} {b : Nat} {h : Hd.H} {n : Int} {sv rv : Value} {rows t f : Int} {x : Value}
theorem PlC.lt (H : PlC w b h n sv rv rows t f x) : b < w.heap.size := (Array.getElem?_eq_some_iff.1 H).1
theorem PlC.later (H : PlC w b h n sv rv rows t f x) (hb : Below w.heap.size w w') : PlC w' b h n sv rv rows t f x := (hb.block b H.lt).trans H
theorem PlC.kept {row : Option Nat} (H : PlC w b h n sv rv rows t f x) (hg : w.grownBy w' row) (hne : some b ≠ row) : PlC w' b h n sv rv rows t f x := (hg.block b H.lt hne).trans H
theorem PlC.sep {Z : Nat → Prop} (H : PlC w b h n sv rv rows t f x) (hs : Sep Z w w') (hz : ¬ Z b) : PlC w' b h n sv rv rows t f x := (hs.block b H.lt hz).trans H
theorem PlC.drewN (H : PlC w b h n sv rv rows t f x) (k : Nat) : PlC (w.drewN k) b h n sv rv rows t f x := H
theorem PlC.drew (H : PlC w b h n sv rv rows t f x) : PlC w.drew b h n sv rv rows t f x := H
theorem PlC.alloc (H : PlC w b h n sv rv rows t f x) (o : Obj) : PlC (w.alloc o) b h n sv rv rows t f x := H.kept (World.grownBy_alloc w o none) (by simp)
theorem PlC.fr (H : PlC w b h n sv rv rows t f x) (o : Nat) : w.frozen? ⟨b, o, none⟩ = false := by have h' : w.heap[b]? = _ := H; simp [World.frozen?, h']
theorem PlC.c0 (H : PlC w b h n sv rv rows t f x) : w.cell? ⟨b, 0, none⟩ = some (.int .i64 h.kd) := by have h' : w.heap[b]? = _ := H; simp [World.cell?, h']
theorem PlC.c1 (H : PlC w b h n sv rv rows t f x) : w.cell? ⟨b, 1, none⟩ = some (.int .i64 h.w) := by have h' : w.heap[b]? = _ := H; simp [World.cell?, h']
theorem PlC.c2 (H : PlC w b h n sv rv rows t f x) : w.cell? ⟨b, 2, none⟩ = some (.int .i64 h.h) := by have h' : w.heap[b]? = _ := H; simp [World.cell?, h']
theorem PlC.c3 (H : PlC w b h n sv rv rows t f x) : w.cell? ⟨b, 3, none⟩ = some (.int .i64 h.m) := by have h' : w.heap[b]? = _ := H; simp [World.cell?, h']
theorem PlC.c4 (H : PlC w b h n sv rv rows t f x) : w.cell? ⟨b, 4, none⟩ = some (.int .i64 n) := by have h' : w.heap[b]? = _ := H; simp [World.cell?, h']
theorem PlC.c5 (H : PlC w b h n sv rv rows t f x) : w.cell? ⟨b, 5, none⟩ = some (sv) := by have h' : w.heap[b]? = _ := H; simp [World.cell?, h']
theorem PlC.c6 (H : PlC w b h n sv rv rows t f x) : w.cell? ⟨b, 6, none⟩ = some (rv) := by have h' : w.heap[b]? = _ := H; simp [World.cell?, h']
theorem PlC.c7 (H : PlC w b h n sv rv rows t f x) : w.cell? ⟨b, 7, none⟩ = some (.int .i64 rows) := by have h' : w.heap[b]? = _ := H; simp [World.cell?, h']
theorem PlC.c8 (H : PlC w b h n sv rv rows t f x) : w.cell? ⟨b, 8, none⟩ = some (.int .i64 t) := by have h' : w.heap[b]? = _ := H; simp [World.cell?, h']
theorem PlC.c9 (H : PlC w b h n sv rv rows t f x) : w.cell? ⟨b, 9, none⟩ = some (.int .i64 f) := by have h' : w.heap[b]? = _ := H; simp [World.cell?, h']
theorem PlC.c10 (H : PlC w b h n sv rv rows t f x) : w.cell? ⟨b, 10, none⟩ = some (x) := by have h' : w.heap[b]? = _ := H; simp [World.cell?, h']
theorem PlC.put4 (H : PlC w b h n sv rv rows t f x) (y : Int) : PlC (w.setCell ⟨b, 4, none⟩ (.int .i64 y)) b h y sv rv rows t f x := by
  have h' : w.heap[b]? = _ := H
  simpa [PlC] using Go.heap_setCell_same w b 4 _ _ (.int .i64 y) h'
theorem PlC.put5 (H : PlC w b h n sv rv rows t f x) (y : Value) : PlC (w.setCell ⟨b, 5, none⟩ y) b h n y rv rows t f x := by
  have h' : w.heap[b]? = _ := H
  simpa [PlC] using Go.heap_setCell_same w b 5 _ _ y h'
theorem PlC.put6 (H : PlC w b h n sv rv rows t f x) (y : Value) : PlC (w.setCell ⟨b, 6, none⟩ y) b h n sv y rows t f x := by
  have h' : w.heap[b]? = _ := H
  simpa [PlC] using Go.heap_setCell_same w b 6 _ _ y h'
theorem PlC.put7 (H : PlC w b h n sv rv rows t f x) (y : Int) : PlC (w.setCell ⟨b, 7, none⟩ (.int .i64 y)) b h n sv rv y t f x := by
  have h' : w.heap[b]? = _ := H
  simpa [PlC] using Go.heap_setCell_same w b 7 _ _ (.int .i64 y) h'
theorem PlC.put8 (H : PlC w b h n sv rv rows t f x) (y : Int) : PlC (w.setCell ⟨b, 8, none⟩ (.int .i64 y)) b h n sv rv rows y f x := by
  have h' : w.heap[b]? = _ := H
  simpa [PlC] using Go.heap_setCell_same w b 8 _ _ (.int .i64 y) h'
theorem PlC.put9 (H : PlC w b h n sv rv rows t f x) (y : Int) : PlC (w.setCell ⟨b, 9, none⟩ (.int .i64 y)) b h n sv rv rows t y x := by
  have h' : w.heap[b]? = _ := H
  simpa [PlC] using Go.heap_setCell_same w b 9 _ _ (.int .i64 y) h'
theorem PlC.put10 (H : PlC w b h n sv rv rows t f x) (y : Value) : PlC (w.setCell ⟨b, 10, none⟩ y) b h n sv rv rows t f y := by
  have h' : w.heap[b]? = _ := H
  simpa [PlC] using Go.heap_setCell_same w b 10 _ _ y h'
end
theorem plain_cells (w : World) (h : Hd.H) (sv rv : Value) (n rows t f : Int) (x : Value) : PlC (w.alloc (.cells #[.int .i64 h.kd, .int .i64 h.w, .int .i64 h.h, .int .i64 h.m, .int .i64 n, sv, rv, .int .i64 rows, .int .i64 t, .int .i64 f, x] 200)) w.heap.size h n sv rv rows t f x := World.alloc_heap_new w _
def stA : Value := .func (.func 173) #[] #[]
def stD : Value := .func (.func 192) #[] #[]
def stB : Value := .func (.func 174) #[] #[]
theorem enPA : ∀ args w, (callFunc 173 args).run Tryz.prog w = .ok (.enter 173 args) w := enters_of Tryz.func173 (by kernel_rfl) rfl
theorem enPD : ∀ args w, (callFunc 192 args).run Tryz.prog w = .ok (.enter 192 args) w := enters_of Tryz.func192 (by kernel_rfl) rfl
theorem enPB : ∀ args w, (callFunc 174 args).run Tryz.prog w = .ok (.enter 174 args) w := enters_of Tryz.func174 (by kernel_rfl) rfl
section
variable (w : World) (b : Nat) (h : Hd.H) (n : Int) (sv rv : Value) (rows t f : Int) (x : Value) (H : PlC w b h n sv rv rows t f x)
include H
set_option maxHeartbeats 1000000 in
theorem plWrong_any (er : Int) :
    Calls Tryz.prog 131 #[.pointer (some ⟨b, 0, none⟩), .int .i64 er] w fun e w' => e = .returned (.tuple #[]) ∧ PlC w' b h n sv rv rows 2 er x ∧ w.grownBy w' (some b) := by
  have hc8 := H.c8
  have hc9 := H.c9
  have f8 := H.fr 8
  have f9 := H.fr 9
  go_enter Tryz.func131, Tryz.ntmps131
  go_wp2
  go_end0
  exact ⟨rfl, (H.put8 _).put9 _, (grown_set _ _ _ _).trans (grown_set _ _ _ _)⟩
set_option maxHeartbeats 1000000 in
theorem plError_any :
    Calls Tryz.prog 135 #[.pointer (some ⟨b, 0, none⟩)] w fun e w' => e = .returned (.int .i64 f) ∧ w = w' := by
  have hc9 := H.c9
  go_enter Tryz.func135, Tryz.ntmps135
  go_wp2
  go_ret
  exact ⟨rfl, rfl⟩
end
section
variable (w : World) (b : Nat) (h : Hd.H) (n : Int) (sv rv : Value) (rows t f : Int) (x : Value) (H : PlC w b h n sv rv rows t f x) (n0 : 0 ≤ n) (n1 : n ≤ h.m) (m1 : h.m ≤ 65535) (c : Int) (c0 : 0 ≤ c) (c1 : c ≤ 255) (k er : Int) (hs : Nu.stepV n c h.m = (k, er))
include H n0 n1 m1 c0 c1 hs
set_option maxHeartbeats 1000000 in
theorem plDigit_range (he : er = 4) :
    Calls Tryz.prog 193 #[.pointer (some ⟨b, 0, none⟩), .int .u8 c] w fun e w' => e = .returned (.int .i64 5) ∧ PlC w' b h n sv rv rows t f x ∧ w.grownBy w' (some b) := by
  have hc3 := H.c3
  have hc4 := H.c4
  have HS : Hid (∀ W, Calls Tryz.prog 207 #[.int .i64 n, .int .u8 c, .int .i64 h.m] W fun r w' => r = .returned (.tuple #[.int .i64 k, .int .i64 er]) ∧ W = w') := fun W => step_two n c h.m n0 n1 (by omega) c0 c1 k er hs W
  subst he
  clear hs
  go_enter Tryz.func193, Tryz.ntmps193
  go_wp2_with (go_quiet ((go_at_call 207; exact Calls.quiet_of_same ((HS.out _).mono fun e w' hh => ⟨hh.1, hh.2.symm⟩))))
  go_ret
  exact ⟨rfl, H.drewN _, grown_drew _ _ _⟩
set_option maxHeartbeats 1000000 in
theorem plDigit_any (he : er ≠ 4) :
    Calls Tryz.prog 193 #[.pointer (some ⟨b, 0, none⟩), .int .u8 c] w fun e w' => e = .returned (.int .i64 er) ∧ PlC w' b h k sv rv rows t f x ∧ w.grownBy w' (some b) := by
  have hc3 := H.c3
  have hc4 := H.c4
  have f4 := H.fr 4
  have HS : Hid (∀ W, Calls Tryz.prog 207 #[.int .i64 n, .int .u8 c, .int .i64 h.m] W fun r w' => r = .returned (.tuple #[.int .i64 k, .int .i64 er]) ∧ W = w') := fun W => step_two n c h.m n0 n1 (by omega) c0 c1 k er hs W
  have ke : (er == 4) = false := by simpa using he
  clear hs he
  go_enter Tryz.func193, Tryz.ntmps193
  go_wp2_with (go_quiet ((go_at_call 207; exact Calls.quiet_of_same ((HS.out _).mono fun e w' hh => ⟨hh.1, hh.2.symm⟩))))
  go_ret
  exact ⟨rfl, (H.drewN _).put4 _, (grown_drew _ _ _).trans (grown_set _ _ _ _)⟩
end
def StR (w : World) (b : Nat) (h : Hd.H) (k : Int) (sv rv : Value) (rows : Int) (x : Value) (d : Bool) (er : Int) (e : Ending) (w' : World) : Prop :=
  e = .returned (.tuple #[.bool d, .int .i64 er]) ∧ PlC w' b h k sv rv rows 0 0 x ∧ w.grownBy w' (some b)
section
variable (w : World) (b : Nat) (h : Hd.H) (n : Int) (sv rv : Value) (rows : Int) (c : Int) (c0 : 0 ≤ c) (c1 : c ≤ 255)
include c0 c1
set_option maxHeartbeats 1000000 in
theorem plAhead_blank (hb : Tk.blank c = true) (H : PlC w b h n sv rv rows 0 0 stA) :
    Calls Tryz.prog 173 #[.pointer (some ⟨b, 0, none⟩), .int .u8 c] w (StR w b h n sv rv rows stA false 0) := by
  have HB : Hid (∀ W, Calls Tryz.prog 128 #[.int .u8 c] W fun e w' => e = .returned (.bool true) ∧ W = w') := fun W => by have := blank_any c c0 c1 W; rw [hb] at this; exact this
  clear hb
  go_enter Tryz.func173, Tryz.ntmps173
  go_wp2_with (go_at_call 128; refine (HB.out _).mono ?_; rintro e w1 ⟨rfl, rfl⟩)
  go_ret2
  exact ⟨rfl, H, .refl _ _⟩
set_option maxHeartbeats 1000000 in
theorem plAhead_digit (hb : Tk.blank c = false) (H : PlC w b h n sv rv rows 0 0 stA) (k er : Int)
    (hd : ∀ W, PlC W b h n sv rv rows 0 0 stD → Calls Tryz.prog 193 #[.pointer (some ⟨b, 0, none⟩), .int .u8 c] W fun e w' => e = .returned (.int .i64 er) ∧ PlC w' b h k sv rv rows 0 0 stD ∧ W.grownBy w' (some b)) :
    Calls Tryz.prog 173 #[.pointer (some ⟨b, 0, none⟩), .int .u8 c] w (StR w b h k sv rv rows stD false er) := by
  have HB : Hid (∀ W, Calls Tryz.prog 128 #[.int .u8 c] W fun e w' => e = .returned (.bool false) ∧ W = w') := fun W => by have := blank_any c c0 c1 W; rw [hb] at this; exact this
  have HD := Lib.hid hd
  have hc10 := H.c10
  have f10 := H.fr 10
  clear hb hd
  go_enter Tryz.func173, Tryz.ntmps173
  go_wp2_with (first | (go_at_call 128; refine (HB.out _).mono ?_; rintro e w1 ⟨rfl, rfl⟩) | (go_at_call 193; refine (HD.out _ (H.put10 _)).mono ?_; rintro e w2 ⟨rfl, h2, hg2⟩))
  go_ret2
  exact ⟨rfl, h2, (grown_set _ _ _ _).trans hg2⟩
set_option maxHeartbeats 1000000 in
theorem plBehind_digit (hb : Tk.blank c = false) (H : PlC w b h n sv rv rows 0 0 stD) (k er : Int)
    (hd : ∀ W, PlC W b h n sv rv rows 0 0 stD → Calls Tryz.prog 193 #[.pointer (some ⟨b, 0, none⟩), .int .u8 c] W fun e w' => e = .returned (.int .i64 er) ∧ PlC w' b h k sv rv rows 0 0 stD ∧ W.grownBy w' (some b)) :
    Calls Tryz.prog 192 #[.pointer (some ⟨b, 0, none⟩), .int .u8 c] w (StR w b h k sv rv rows stD false er) := by
  have HB : Hid (∀ W, Calls Tryz.prog 128 #[.int .u8 c] W fun e w' => e = .returned (.bool false) ∧ W = w') := fun W => by have := blank_any c c0 c1 W; rw [hb] at this; exact this
  have HD := Lib.hid hd
  clear hb hd
  go_enter Tryz.func192, Tryz.ntmps192
  go_wp2_with (first | (go_at_call 128; refine (HB.out _).mono ?_; rintro e w1 ⟨rfl, rfl⟩) | (go_at_call 193; refine (HD.out _ H).mono ?_; rintro e w2 ⟨rfl, h2, hg2⟩))
  go_ret2
  exact ⟨rfl, h2, hg2⟩
set_option maxHeartbeats 1000000 in
theorem plBehind_blank (hb : Tk.blank c = true) (H : PlC w b h n sv rv rows 0 0 stD) :
    Calls Tryz.prog 192 #[.pointer (some ⟨b, 0, none⟩), .int .u8 c] w (StR w b h n sv rv rows stA true 0) := by
  have HB : Hid (∀ W, Calls Tryz.prog 128 #[.int .u8 c] W fun e w' => e = .returned (.bool true) ∧ W = w') := fun W => by have := blank_any c c0 c1 W; rw [hb] at this; exact this
  have hc10 := H.c10
  have f10 := H.fr 10
  clear hb
  go_enter Tryz.func192, Tryz.ntmps192
  go_wp2_with (go_at_call 128; refine (HB.out _).mono ?_; rintro e w1 ⟨rfl, rfl⟩)
  go_ret2
  exact ⟨rfl, H.put10 _, grown_set _ _ _ _⟩
set_option maxHeartbeats 1000000 in
theorem plBit_blank (hb : Tk.blank c = true) (H : PlC w b h n sv rv rows 0 0 stB) :
    Calls Tryz.prog 174 #[.pointer (some ⟨b, 0, none⟩), .int .u8 c] w (StR w b h n sv rv rows stB false 0) := by
  have HB : Hid (∀ W, Calls Tryz.prog 128 #[.int .u8 c] W fun e w' => e = .returned (.bool true) ∧ W = w') := fun W => by have := blank_any c c0 c1 W; rw [hb] at this; exact this
  clear hb
  go_enter Tryz.func174, Tryz.ntmps174
  go_wp2_with (go_at_call 128; refine (HB.out _).mono ?_; rintro e w1 ⟨rfl, rfl⟩)
  go_ret2
  exact ⟨rfl, H, .refl _ _⟩
set_option maxHeartbeats 1000000 in
theorem plBit_no (hb : Tk.blank c = false) (h48 : c ≠ 48) (h49 : c ≠ 49) (H : PlC w b h n sv rv rows 0 0 stB) :
    Calls Tryz.prog 174 #[.pointer (some ⟨b, 0, none⟩), .int .u8 c] w (StR w b h n sv rv rows stB false 3) := by
  have HB : Hid (∀ W, Calls Tryz.prog 128 #[.int .u8 c] W fun e w' => e = .returned (.bool false) ∧ W = w') := fun W => by have := blank_any c c0 c1 W; rw [hb] at this; exact this
  have k8 : (c != 48) = true := by simpa using h48
  have k9 : (c != 49) = true := by simpa using h49
  clear hb h48 h49
  go_enter Tryz.func174, Tryz.ntmps174
  go_wp2_with (go_at_call 128; refine (HB.out _).mono ?_; rintro e w1 ⟨rfl, rfl⟩)
  go_ret2
  exact ⟨rfl, H, .refl _ _⟩
end
set_option maxHeartbeats 1000000 in
theorem plBit_yes (w : World) (b : Nat) (h : Hd.H) (n : Int) (sv rv : Value) (rows : Int) (c : Int) (hc : c = 48 ∨ c = 49) (H : PlC w b h n sv rv rows 0 0 stB) :
    Calls Tryz.prog 174 #[.pointer (some ⟨b, 0, none⟩), .int .u8 c] w (StR w b h (c - 48) sv rv rows stB true 0) := by
  have hc4 := H.c4
  have f4 := H.fr 4
  rcases hc with rfl | rfl
  · have HB : Hid (∀ W, Calls Tryz.prog 128 #[.int .u8 48] W fun e w' => e = .returned (.bool false) ∧ W = w') := fun W => blank_any 48 (by decide) (by decide) W
    go_enter Tryz.func174, Tryz.ntmps174
    go_wp2_with (go_at_call 128; refine (HB.out _).mono ?_; rintro e w1 ⟨rfl, rfl⟩)
    go_ret2
    exact ⟨rfl, H.put4 _, grown_set _ _ _ _⟩
  · have HB : Hid (∀ W, Calls Tryz.prog 128 #[.int .u8 49] W fun e w' => e = .returned (.bool false) ∧ W = w') := fun W => blank_any 49 (by decide) (by decide) W
    go_enter Tryz.func174, Tryz.ntmps174
    go_wp2_with (go_at_call 128; refine (HB.out _).mono ?_; rintro e w1 ⟨rfl, rfl⟩)
    go_ret2
    exact ⟨rfl, H.put4 _, grown_set _ _ _ _⟩
end Go.Proofs.YtkjkepnailamnaaGreat
namespace Go.Proofs.YtkjkepnailamnaaGreat
open Go.RowKit
set_option linter.unusedVariables false
def PlZ (b : Nat) (sv rv : Value) (k : Nat) : Prop := k = b ∨ sv.ownBlock = some k ∨ rv.ownBlock = some k
def PlNew (W : World) (v v' : Value) : Prop := v'.ownBlock = v.ownBlock ∨ ∀ k, v'.ownBlock = some k → W.heap.size ≤ k
def ints (l : List Int) : List Value := l.map (Value.int .i64)
def pixs (l : List Int) : List Value := l.map (Value.int .u64)
theorem set_ownsRow {w : World} {base size n : Nat} {e : TypeId} {v : Value} {xs : List Value} (h : w.ownsRow base e size v n xs) {a : Addr} (ha : a.block < base) (y : Value) : (w.setCell a y).ownsRow base e size v n xs := by
  obtain ⟨h1, h2⟩ := h
  refine ⟨h1, ?_⟩
  rcases h2 with h2 | ⟨g, cap, cur, rfl, hbs, hg, r⟩
  · exact .inl h2
  · exact .inr ⟨g, cap, cur, rfl, hbs, (Below.heap_setCell w a y g (by omega)).trans hg, r⟩
theorem apart_rows {w : World} {b1 b2 s1 s2 k1 k2 : Nat} {e1 e2 : TypeId} (hne : e1 ≠ e2) {v1 v2 : Value} {x1 x2 : List Value} (h1 : w.ownsRow b1 e1 s1 v1 k1 x1) (h2 : w.ownsRow b2 e2 s2 v2 k2 x2) : v1.ownBlock = none ∨ v1.ownBlock ≠ v2.ownBlock := by
  rcases h1.2 with ⟨rfl, _⟩ | ⟨g, cap, cur, rfl, _, hg, _⟩
  · exact .inl rfl
  · right
    intro e
    rcases h2.2 with ⟨rfl, _⟩ | ⟨g2, cap2, cur2, rfl, _, hg2, _⟩
    · cases e
    · simp only [Value.ownBlock, Option.some.injEq] at e
      subst e
      rw [hg] at hg2
      simp only [Option.some.injEq, Obj.cells.injEq] at hg2
      exact hne hg2.2.1
structure PlT (W : World) (b : Nat) (h : Hd.H) (sv0 rv0 : Value) (n : Int) (sv rv : Value) (one row : List Int) (rows t : Int) (x : Value) (w : World) : Prop where
  c : PlC w b h n sv rv rows t 0 x
  s : w.ownsRow (b + 1) 3 1 sv one.length (ints one)
  r : w.ownsRow (b + 1) 55 1 rv row.length (pixs row)
  f : Sep (PlZ b sv0 rv0) W w
  ns : PlNew W sv0 sv
  nr : PlNew W rv0 rv
theorem below_row {w w' : World} {base size k : Nat} {e : TypeId} {v : Value} {xs : List Value} (hr : w.ownsRow base e size v k xs) (hb : Below w.heap.size w w') : w'.ownsRow base e size v k xs :=
  hr.kept (row := none) ⟨hb.os, hb.tape, hb.output, hb.size, fun k hk _ => hb.block k hk⟩ (by cases hv : v.ownBlock <;> simp)
section
variable {W w : World} {b : Nat} {h : Hd.H} {sv0 rv0 : Value} {n : Int} {sv rv : Value} {one row : List Int} {rows t : Int} {x : Value}
theorem PlT.start (c : PlC w b h n sv rv rows t 0 x) (s : w.ownsRow (b + 1) 3 1 sv one.length (ints one)) (r : w.ownsRow (b + 1) 55 1 rv row.length (pixs row)) : PlT w b h sv rv n sv rv one row rows t x w :=
  ⟨c, s, r, .refl _ _, .inl rfl, .inl rfl⟩
theorem PlT.bls (T : PlT W b h sv0 rv0 n sv rv one row rows t x w) : ∀ k, sv.ownBlock = some k → b + 1 ≤ k := fun k hk => (T.s.lt k hk).1
theorem PlT.blr (T : PlT W b h sv0 rv0 n sv rv one row rows t x w) : ∀ k, rv.ownBlock = some k → b + 1 ≤ k := fun k hk => (T.r.lt k hk).1
theorem PlT.nes (T : PlT W b h sv0 rv0 n sv rv one row rows t x w) : some b ≠ sv.ownBlock := fun e => by have := T.bls b e.symm; omega
theorem PlT.ner (T : PlT W b h sv0 rv0 n sv rv one row rows t x w) : some b ≠ rv.ownBlock := fun e => by have := T.blr b e.symm; omega
theorem PlT.below (T : PlT W b h sv0 rv0 n sv rv one row rows t x w) {w' : World} (hb : Below w.heap.size w w') : PlT W b h sv0 rv0 n sv rv one row rows t x w' :=
  ⟨T.c.later hb, below_row T.s hb, below_row T.r hb, ⟨hb.os.trans T.f.os, hb.tape.trans T.f.tape, hb.output.trans T.f.output, Nat.le_trans T.f.size hb.size, fun k hk hz => (hb.block k (Nat.lt_of_lt_of_le hk T.f.size)).trans (T.f.block k hk hz)⟩, T.ns, T.nr⟩
theorem PlT.drew (T : PlT W b h sv0 rv0 n sv rv one row rows t x w) : PlT W b h sv0 rv0 n sv rv one row rows t x w.drew := ⟨T.c, T.s, T.r, T.f.trans (.drew _ _), T.ns, T.nr⟩
theorem PlT.set4 (T : PlT W b h sv0 rv0 n sv rv one row rows t x w) (y : Int) : PlT W b h sv0 rv0 y sv rv one row rows t x (w.setCell ⟨b, 4, none⟩ (.int .i64 y)) :=
  ⟨T.c.put4 y, set_ownsRow T.s (Nat.lt_succ_self b) _, set_ownsRow T.r (Nat.lt_succ_self b) _, T.f.trans (.setCell _ (.inl rfl) _), T.ns, T.nr⟩
theorem PlT.set7 (T : PlT W b h sv0 rv0 n sv rv one row rows t x w) (y : Int) : PlT W b h sv0 rv0 n sv rv one row y t x (w.setCell ⟨b, 7, none⟩ (.int .i64 y)) :=
  ⟨T.c.put7 y, set_ownsRow T.s (Nat.lt_succ_self b) _, set_ownsRow T.r (Nat.lt_succ_self b) _, T.f.trans (.setCell _ (.inl rfl) _), T.ns, T.nr⟩
theorem PlT.set8 (T : PlT W b h sv0 rv0 n sv rv one row rows t x w) (y : Int) : PlT W b h sv0 rv0 n sv rv one row rows y x (w.setCell ⟨b, 8, none⟩ (.int .i64 y)) :=
  ⟨T.c.put8 y, set_ownsRow T.s (Nat.lt_succ_self b) _, set_ownsRow T.r (Nat.lt_succ_self b) _, T.f.trans (.setCell _ (.inl rfl) _), T.ns, T.nr⟩
theorem PlT.free (T : PlT W b h sv0 rv0 n sv rv one row rows t x w) : PlT W b h sv0 rv0 n sv (.slice none 0 0) one [] rows t x (w.setCell ⟨b, 6, none⟩ (.slice none 0 0)) :=
  ⟨T.c.put6 _, set_ownsRow T.s (Nat.lt_succ_self b) _, World.ownsRow_nil _ _ _ _, T.f.trans (.setCell _ (.inl rfl) _), T.ns, .inr fun k hk => by cases hk⟩
theorem ownsRow_zero {base : Nat} {e : TypeId} {size m c : Nat} {a : Option Addr} {xs : List Value} (hr : w.ownsRow base e size (.slice a m c) m xs) : w.ownsRow base e size (.slice a 0 c) 0 [] := by
  refine ⟨by simp, ?_⟩
  rcases hr.2 with ⟨hv, _⟩ | ⟨g, cap, cur, hv, hb, hg, hle, hm, hs, _⟩
  · cases hv; exact .inl ⟨rfl, rfl⟩
  · cases hv; exact .inr ⟨g, c, cur, rfl, hb, hg, Nat.zero_le _, hm, hs, by simp⟩
theorem PlT.clear {a : Option Addr} {m c : Nat} (T : PlT W b h sv0 rv0 n (.slice a m c) rv one row rows t x w) (hm : one.length = m) : PlT W b h sv0 rv0 n (.slice a 0 c) rv [] row rows t x (w.setCell ⟨b, 5, none⟩ (.slice a 0 c)) := by
  have hs := T.s
  rw [hm] at hs
  refine ⟨T.c.put5 _, set_ownsRow (ownsRow_zero hs) (Nat.lt_succ_self b) _, set_ownsRow T.r (Nat.lt_succ_self b) _, T.f.trans (.setCell _ (.inl rfl) _), ?_, T.nr⟩
  have e : (Value.slice a 0 c).ownBlock = (Value.slice a m c).ownBlock := by cases a <;> rfl
  unfold PlNew; rw [e]; exact T.ns
theorem new_at {W : World} {v0 v : Value} {k H : Nat} {n c : Nat} (hv : PlNew W v0 v) (hat : v.ownBlock = some k ∨ k = H) (hH : W.heap.size ≤ H) : PlNew W v0 (.slice (some ⟨k, 0, none⟩) n c) := by
  rcases hat with e | rfl
  · unfold PlNew; show some k = _ ∨ ∀ j, some k = some j → _
    rcases hv with hv | hv
    · left; rw [← hv, e]
    · right; intro j hj; cases hj; exact hv k e
  · right; intro j hj; cases hj; exact hH
theorem zone_of {W : World} {b : Nat} {v0 v z : Value} {k : Nat} (hv : PlNew W v0 v) (e : v.ownBlock = some k) (hk : k < W.heap.size) : v0.ownBlock = some k := by
  rcases hv with hv | hv
  · rw [← hv, e]
  · have := hv k e; omega
theorem PlT.pushS (T : PlT W b h sv0 rv0 n sv rv one row rows t x w) (hte : 3 ≠ 55) (o : Obj) (y : Int) {w5 : World} {g cc : Nat}
    (hown : w5.ownsRow (b + 1) 3 1 (.slice (some ⟨g, 0, none⟩) (one.length + 1) cc) (one.length + 1) (ints one ++ [.int .i64 y])) (hgrow : (w.alloc o).grownBy w5 sv.ownBlock) (hat : sv.ownBlock = some g ∨ g = (w.alloc o).heap.size) :
    PlC w5 b h n sv rv rows t 0 x ∧ PlT W b h sv0 rv0 n (.slice (some ⟨g, 0, none⟩) (one.length + 1) cc) rv (one ++ [y]) row rows t x (w5.setCell ⟨b, 5, none⟩ (.slice (some ⟨g, 0, none⟩) (one.length + 1) cc)) := by
  have c5 := (T.c.alloc o).kept hgrow T.nes
  have r5 := (T.r.alloc o).kept hgrow (apart_rows (Ne.symm hte) T.r T.s)
  refine ⟨c5, c5.put5 _, ?_, set_ownsRow r5 (Nat.lt_succ_self b) _, ⟨hgrow.os.trans T.f.os, hgrow.tape.trans T.f.tape, hgrow.output.trans T.f.output, ?_, ?_⟩, new_at T.ns hat (by have := T.f.size; simp; omega), T.nr⟩
  · have := set_ownsRow hown (a := ⟨b, 5, none⟩) (Nat.lt_succ_self b) (.slice (some ⟨g, 0, none⟩) (one.length + 1) cc)
    unfold ints at this ⊢
    rw [List.length_append, List.map_append]; exact this
  · have h1 := T.f.size; have h2 := hgrow.size; simp at h2 ⊢; omega
  · intro k hk hz
    have h1 := T.f.size
    rw [Below.heap_setCell _ _ _ _ (fun e => hz (.inl e)), hgrow.block k (by simp; omega) (fun e => hz (.inr (.inl (zone_of (b := b) (z := rv) T.ns e.symm hk))))]
    rw [Below.heap_alloc _ _ _ (by omega)]
    exact T.f.block k hk hz
theorem PlT.pushR (T : PlT W b h sv0 rv0 n sv rv one row rows t x w) (hte : 3 ≠ 55) (o : Obj) (y : Int) {w5 : World} {g cc : Nat}
    (hown : w5.ownsRow (b + 1) 55 1 (.slice (some ⟨g, 0, none⟩) (row.length + 1) cc) (row.length + 1) (pixs row ++ [.int .u64 y])) (hgrow : (w.alloc o).grownBy w5 rv.ownBlock) (hat : rv.ownBlock = some g ∨ g = (w.alloc o).heap.size) :
    PlC w5 b h n sv rv rows t 0 x ∧ PlT W b h sv0 rv0 n sv (.slice (some ⟨g, 0, none⟩) (row.length + 1) cc) one (row ++ [y]) rows t x (w5.setCell ⟨b, 6, none⟩ (.slice (some ⟨g, 0, none⟩) (row.length + 1) cc)) := by
  have c5 := (T.c.alloc o).kept hgrow T.ner
  have s5 := (T.s.alloc o).kept hgrow (apart_rows hte T.s T.r)
  refine ⟨c5, c5.put6 _, set_ownsRow s5 (Nat.lt_succ_self b) _, ?_, ⟨hgrow.os.trans T.f.os, hgrow.tape.trans T.f.tape, hgrow.output.trans T.f.output, ?_, ?_⟩, T.ns, new_at T.nr hat (by have := T.f.size; simp; omega)⟩
  · have := set_ownsRow hown (a := ⟨b, 6, none⟩) (Nat.lt_succ_self b) (.slice (some ⟨g, 0, none⟩) (row.length + 1) cc)
    unfold pixs at this ⊢
    rw [List.length_append, List.map_append]; exact this
  · have h1 := T.f.size; have h2 := hgrow.size; simp at h2 ⊢; omega
  · intro k hk hz
    have h1 := T.f.size
    rw [Below.heap_setCell _ _ _ _ (fun e => hz (.inl e)), hgrow.block k (by simp; omega) (fun e => hz (.inr (.inr (zone_of (b := b) (z := rv) T.nr e.symm hk))))]
    rw [Below.heap_alloc _ _ _ (by omega)]
    exact T.f.block k hk hz
end
end Go.Proofs.YtkjkepnailamnaaGreat
namespace Go.Proofs.YtkjkepnailamnaaGreat
open Go.RowKit
set_option linter.unusedVariables false
def Hj.pre (h : Hd.H) : List Int := [80] ++ Nu.decV h.kd ++ [10] ++ Nu.decV h.w ++ [32] ++ Nu.decV h.h ++ [10]
theorem Hj.pre_str (h : Hd.H) : (⟨#[80]⟩ : ByteArray) ++ strOfNums (Nu.decV h.kd) ++ ⟨#[10]⟩ ++ strOfNums (Nu.decV h.w) ++ ⟨#[32]⟩ ++ strOfNums (Nu.decV h.h) ++ ⟨#[10]⟩ = strOfNums (Hj.pre h) := by
  unfold Hj.pre
  simp only [strOfNums_append]
  rfl
theorem Hj.bytes_bits {h : Hd.H} (hb : Hd.bits h.kd = true) : Hd.bytes h = Hj.pre h := by unfold Hd.bytes Hj.pre; rw [if_pos hb, List.append_nil]
theorem Hj.bytes_more {h : Hd.H} (hb : Hd.bits h.kd = false) : Hd.bytes h = Hj.pre h ++ (Nu.decV h.m ++ [10]) := by unfold Hd.bytes Hj.pre; rw [if_neg (by rw [hb]; simp)]
theorem Hj.pre_size {h : Hd.H} (hf : Hj.Fit h) : (strOfNums (Hj.pre h)).size ≤ 204 := by
  have a := Nu.decV_len hf.1
  have b := Nu.decV_len hf.2.1
  have c := Nu.decV_len hf.2.2.1
  rw [strOfNums_size]
  unfold Hj.pre
  simp only [List.length_append, List.length_cons, List.length_nil]
  omega
def Hj.wr (h : Hd.H) : Value := if Hd.May h then .tuple #[.string (strOfNums (Hd.bytes h)), .int .i64 0] else .tuple #[.string ⟨#[]⟩, .int .i64 1]
set_option maxRecDepth 100000 in
set_option maxHeartbeats 4000000 in
theorem hwrite_any (h : Hd.H) (hf : Hj.Fit h) (w : World) :
    Calls Tryz.prog 68 #[agH h] w fun e w' => e = .returned (Hj.wr h) ∧ Below w.heap.size w w' := by
  have HM := Lib.hid (hmay_any h hf)
  have HT := Lib.hid (tells_any h.kd)
  by_cases hm : Hd.May h
  · rw [decide_eq_true hm] at HM
    have X0 : Hid (Hj.wr h = .tuple #[.string (strOfNums (Hd.bytes h)), .int .i64 0]) := if_pos hm
    have XP := Lib.hid (Hj.pre_str h)
    have XS := Lib.hid (Hj.pre_size hf)
    have XB := Lib.hid (@Hj.bytes_bits h)
    have XM := Lib.hid (@Hj.bytes_more h)
    obtain ⟨kd, ww, hh, m⟩ := h
    have HD1 := Lib.hid (decimal_any kd hf.1)
    have HD2 := Lib.hid (decimal_any ww hf.2.1)
    have HD3 := Lib.hid (decimal_any hh hf.2.2.1)
    have HD4 := Lib.hid (decimal_any m hf.2.2.2)
    have s1 : (strOfNums (Nu.decV kd)).size ≤ 66 := by rw [strOfNums_size]; exact Nu.decV_len hf.1
    have s2 : (strOfNums (Nu.decV ww)).size ≤ 66 := by rw [strOfNums_size]; exact Nu.decV_len hf.2.1
    have s3 : (strOfNums (Nu.decV hh)).size ≤ 66 := by rw [strOfNums_size]; exact Nu.decV_len hf.2.2.1
    have s4 : (strOfNums (Nu.decV m)).size ≤ 66 := by rw [strOfNums_size]; exact Nu.decV_len hf.2.2.2
    obtain ⟨g, hg⟩ : ∃ g, Hd.bits kd = g := ⟨_, rfl⟩
    simp only at XP XB XM HT
    rw [hg] at HT
    obtain ⟨D1, hD1⟩ : ∃ D, strOfNums (Nu.decV kd) = D := ⟨_, rfl⟩
    obtain ⟨D2, hD2⟩ : ∃ D, strOfNums (Nu.decV ww) = D := ⟨_, rfl⟩
    obtain ⟨D3, hD3⟩ : ∃ D, strOfNums (Nu.decV hh) = D := ⟨_, rfl⟩
    obtain ⟨D4, hD4⟩ : ∃ D, strOfNums (Nu.decV m) = D := ⟨_, rfl⟩
    rw [hD1] at HD1 s1 XP
    rw [hD2] at HD2 s2 XP
    rw [hD3] at HD3 s3 XP
    rw [hD4] at HD4 s4
    have L1 : ¬ 9223372036854775807 < 1 + D1.size := by omega
    have L2 : ¬ 9223372036854775807 < 1 + D1.size + 1 := by omega
    have L3 : ¬ 9223372036854775807 < 1 + D1.size + 1 + D2.size := by omega
    have L4 : ¬ 9223372036854775807 < 1 + D1.size + 1 + D2.size + 1 := by omega
    have L5 : ¬ 9223372036854775807 < 1 + D1.size + 1 + D2.size + 1 + D3.size := by omega
    have L6 : ¬ 9223372036854775807 < 1 + D1.size + 1 + D2.size + 1 + D3.size + 1 := by omega
    have HG := Lib.hid hg
    have HD4S := Lib.hid hD4
    have S4 := Lib.hid s4
    clear hm hf s1 s2 s3 s4 hD1 hD2 hD3 hD4 hg
    unfold agH at HM ⊢
    go_enter Tryz.func68, Tryz.ntmps68
    go_wp2_with fail
    refine (HM.out _).mono ?_
    rintro e w9 ⟨rfl, hb9⟩
    obtain ⟨n0, n1, n2, n3⟩ := ((Hb.new w 62 ⟨kd, ww, hh, m⟩).later hb9).cells
    have HBz : Hid (Below w.heap.size w w9) := ((Below.refl _ w).alloc (Nat.le_refl _) (.cells #[.int .i64 kd, .int .i64 ww, .int .i64 hh, .int .i64 m] 62)).trans (hb9.mono (by simp))
    have hBr : Below w9.heap.size w9 w9 := .refl _ _
    clear hb9
    go_wp2_with fail
    go_cut [4] (fun s4 wx => s4 = .string ((⟨#[80]⟩ : ByteArray) ++ D1 ++ ⟨#[10]⟩ ++ D2 ++ ⟨#[32]⟩ ++ D3 ++ ⟨#[10]⟩) ∧ Below w9.heap.size w9 wx)
    case first =>
      go_region_held3 (fun w' => w'.cell? ⟨w.heap.size, 0, none⟩ = some (.int .i64 kd) ∧ w'.cell? ⟨w.heap.size, 1, none⟩ = some (.int .i64 ww) ∧ w'.cell? ⟨w.heap.size, 2, none⟩ = some (.int .i64 hh))
        (first | exact ⟨n0, n1, n2⟩ | exact ⟨cell_later hBr n0, cell_later hBr n1, cell_later hBr n2⟩)
        (first
          | (go_at_call 116; with_reducible refine (HD1.out _).mono ?_; rintro e w8 ⟨rfl, hb8⟩; replace hBr := bel_step (w := w9) (by first | exact hBr | exact hBr.drew) hb8)
          | (go_at_call 116; with_reducible refine (HD2.out _).mono ?_; rintro e w8 ⟨rfl, hb8⟩; replace hBr := bel_step (w := w9) (by first | exact hBr | exact hBr.drew) hb8)
          | (go_at_call 116; with_reducible refine (HD3.out _).mono ?_; rintro e w8 ⟨rfl, hb8⟩; replace hBr := bel_step (w := w9) (by first | exact hBr | exact hBr.drew) hb8))
      all_goals
        go_wp2_with fail
        go_meet
        case rel => exact ⟨rfl, hBr⟩
    case rest =>
      obtain ⟨rfl, hBx⟩ := hcut
      have m0 := cell_later hBx n0
      have m3 := cell_later hBx n3
      have HBy := Lib.hid (HBz.out.trans (hBx.mono HBz.out.size))
      clear n0 n1 n2 n3 hBr hBx L1 L2 L3 L4 L5 L6
      rw [XP.out]
      obtain ⟨T, hT⟩ : ∃ T, strOfNums (Hj.pre ⟨kd, ww, hh, m⟩) = T := ⟨_, rfl⟩
      rw [hT] at XS ⊢
      have s4 := S4.out
      have sT := XS.out
      have M1 : ¬ 9223372036854775807 < D4.size + 1 := by omega
      have M2 : ¬ 9223372036854775807 < T.size + (D4.size + 1) := by omega
      have M3 : ¬ 9223372036854775807 < T.size + D4.size := by omega
      have M4 : ¬ 9223372036854775807 < T.size + D4.size + 1 := by omega
      have HTT := Lib.hid hT
      clear hT s4 sT
      cases g with
      | true =>
        go_wp2_with (go_at_call 117; refine (HT.out _).mono ?_; rintro e w7 ⟨rfl, rfl⟩)
        go_ret2
        exact ⟨by rw [X0.out, XB.out HG.out, HTT.out]; rfl, HBy.out⟩
      | false =>
        have XF : Hid (strOfNums (Hd.bytes ⟨kd, ww, hh, m⟩) = T ++ (D4 ++ ⟨#[10]⟩)) := by
          show _ = _
          rw [XM.out HG.out, strOfNums_append, strOfNums_append, HTT.out, HD4S.out]; rfl
        go_wp2_with (first
          | (go_at_call 117; refine (HT.out _).mono ?_; rintro e w7 ⟨rfl, rfl⟩)
          | (go_at_call 116; with_reducible refine (HD4.out _).mono ?_; rintro e w6 ⟨rfl, hb6⟩))
        go_ret2
        exact ⟨by rw [X0.out, XF.out]; rfl, HBy.out.trans (hb6.mono HBy.out.size)⟩
  · rw [decide_eq_false hm] at HM
    have X0 : Hid (Hj.wr h = .tuple #[.string ⟨#[]⟩, .int .i64 1]) := if_neg hm
    obtain ⟨kd, ww, hh, m⟩ := h
    clear hm HT
    unfold agH at HM ⊢
    go_enter Tryz.func68, Tryz.ntmps68
    go_wp2_with fail
    refine (HM.out _).mono ?_
    rintro e w9 ⟨rfl, hb9⟩
    go_wp2
    go_ret2
    exact ⟨by rw [X0.out]; rfl, ((Below.refl _ w).alloc (Nat.le_refl _) _).trans (hb9.mono (by simp))⟩
set_option maxRecDepth 100000 in
set_option maxHeartbeats 4000000 in
theorem refWrite_any (h : Hd.H) (hf : Hj.Fit h) (w : World) :
    Calls Tryz.prog 54 #[agH h] w fun e w' => e = .returned (Hj.wr h) ∧ Below w.heap.size w w' := by
  have HM := Lib.hid (refMay_any h hf)
  have HT := Lib.hid (bits_any h.kd)
  by_cases hm : Hd.May h
  · rw [decide_eq_true hm] at HM
    have X0 : Hid (Hj.wr h = .tuple #[.string (strOfNums (Hd.bytes h)), .int .i64 0]) := if_pos hm
    have XP := Lib.hid (Hj.pre_str h)
    have XS := Lib.hid (Hj.pre_size hf)
    have XB := Lib.hid (@Hj.bytes_bits h)
    have XM := Lib.hid (@Hj.bytes_more h)
    obtain ⟨kd, ww, hh, m⟩ := h
    have HD1 := Lib.hid (refDecimal_any kd hf.1)
    have HD2 := Lib.hid (refDecimal_any ww hf.2.1)
    have HD3 := Lib.hid (refDecimal_any hh hf.2.2.1)
    have HD4 := Lib.hid (refDecimal_any m hf.2.2.2)
    have s1 : (strOfNums (Nu.decV kd)).size ≤ 66 := by rw [strOfNums_size]; exact Nu.decV_len hf.1
    have s2 : (strOfNums (Nu.decV ww)).size ≤ 66 := by rw [strOfNums_size]; exact Nu.decV_len hf.2.1
    have s3 : (strOfNums (Nu.decV hh)).size ≤ 66 := by rw [strOfNums_size]; exact Nu.decV_len hf.2.2.1
    have s4 : (strOfNums (Nu.decV m)).size ≤ 66 := by rw [strOfNums_size]; exact Nu.decV_len hf.2.2.2
    obtain ⟨g, hg⟩ : ∃ g, Hd.bits kd = g := ⟨_, rfl⟩
    simp only at XP XB XM HT
    rw [hg] at HT
    obtain ⟨D1, hD1⟩ : ∃ D, strOfNums (Nu.decV kd) = D := ⟨_, rfl⟩
    obtain ⟨D2, hD2⟩ : ∃ D, strOfNums (Nu.decV ww) = D := ⟨_, rfl⟩
    obtain ⟨D3, hD3⟩ : ∃ D, strOfNums (Nu.decV hh) = D := ⟨_, rfl⟩
    obtain ⟨D4, hD4⟩ : ∃ D, strOfNums (Nu.decV m) = D := ⟨_, rfl⟩
    rw [hD1] at HD1 s1 XP
    rw [hD2] at HD2 s2 XP
    rw [hD3] at HD3 s3 XP
    rw [hD4] at HD4 s4
    have L1 : ¬ 9223372036854775807 < 1 + D1.size := by omega
    have L2 : ¬ 9223372036854775807 < 1 + D1.size + 1 := by omega
    have L3 : ¬ 9223372036854775807 < 1 + D1.size + 1 + D2.size := by omega
    have L4 : ¬ 9223372036854775807 < 1 + D1.size + 1 + D2.size + 1 := by omega
    have L5 : ¬ 9223372036854775807 < 1 + D1.size + 1 + D2.size + 1 + D3.size := by omega
    have L6 : ¬ 9223372036854775807 < 1 + D1.size + 1 + D2.size + 1 + D3.size + 1 := by omega
    have HG := Lib.hid hg
    have HD4S := Lib.hid hD4
    have S4 := Lib.hid s4
    clear hm hf s1 s2 s3 s4 hD1 hD2 hD3 hD4 hg
    unfold agH at HM ⊢
    go_enter Tryz.func54, Tryz.ntmps54
    go_wp2_with fail
    refine (HM.out _).mono ?_
    rintro e w9 ⟨rfl, hb9⟩
    obtain ⟨n0, n1, n2, n3⟩ := ((Hb.new w 112 ⟨kd, ww, hh, m⟩).later hb9).cells
    have HBz : Hid (Below w.heap.size w w9) := ((Below.refl _ w).alloc (Nat.le_refl _) (.cells #[.int .i64 kd, .int .i64 ww, .int .i64 hh, .int .i64 m] 112)).trans (hb9.mono (by simp))
    have hBr : Below w9.heap.size w9 w9 := .refl _ _
    clear hb9
    go_wp2_with fail
    go_cut [5] (fun s4 wx => s4 = .string ((⟨#[80]⟩ : ByteArray) ++ D1 ++ ⟨#[10]⟩ ++ D2 ++ ⟨#[32]⟩ ++ D3 ++ ⟨#[10]⟩) ∧ Below w9.heap.size w9 wx)
    case first =>
      go_region_held3 (fun w' => w'.cell? ⟨w.heap.size, 0, none⟩ = some (.int .i64 kd) ∧ w'.cell? ⟨w.heap.size, 1, none⟩ = some (.int .i64 ww) ∧ w'.cell? ⟨w.heap.size, 2, none⟩ = some (.int .i64 hh))
        (first | exact ⟨n0, n1, n2⟩ | exact ⟨cell_later hBr n0, cell_later hBr n1, cell_later hBr n2⟩)
        (first
          | (go_at_call 89; with_reducible refine (HD1.out _).mono ?_; rintro e w8 ⟨rfl, hb8⟩; replace hBr := bel_step (w := w9) (by first | exact hBr | exact hBr.drew) hb8)
          | (go_at_call 89; with_reducible refine (HD2.out _).mono ?_; rintro e w8 ⟨rfl, hb8⟩; replace hBr := bel_step (w := w9) (by first | exact hBr | exact hBr.drew) hb8)
          | (go_at_call 89; with_reducible refine (HD3.out _).mono ?_; rintro e w8 ⟨rfl, hb8⟩; replace hBr := bel_step (w := w9) (by first | exact hBr | exact hBr.drew) hb8))
      all_goals
        go_wp2_with fail
        go_meet
        case rel => exact ⟨rfl, hBr⟩
    case rest =>
      obtain ⟨rfl, hBx⟩ := hcut
      have m0 := cell_later hBx n0
      have m3 := cell_later hBx n3
      have HBy := Lib.hid (HBz.out.trans (hBx.mono HBz.out.size))
      clear n0 n1 n2 n3 hBr hBx L1 L2 L3 L4 L5 L6
      rw [XP.out]
      obtain ⟨T, hT⟩ : ∃ T, strOfNums (Hj.pre ⟨kd, ww, hh, m⟩) = T := ⟨_, rfl⟩
      rw [hT] at XS ⊢
      have s4 := S4.out
      have sT := XS.out
      have M1 : ¬ 9223372036854775807 < D4.size + 1 := by omega
      have M2 : ¬ 9223372036854775807 < T.size + (D4.size + 1) := by omega
      have M3 : ¬ 9223372036854775807 < T.size + D4.size := by omega
      have M4 : ¬ 9223372036854775807 < T.size + D4.size + 1 := by omega
      have HTT := Lib.hid hT
      clear hT s4 sT
      cases g with
      | true =>
        go_wp2_with (go_at_call 90; refine (HT.out _).mono ?_; rintro e w7 ⟨rfl, rfl⟩)
        go_ret2
        exact ⟨by rw [X0.out, XB.out HG.out, HTT.out]; rfl, HBy.out⟩
      | false =>
        have XF : Hid (strOfNums (Hd.bytes ⟨kd, ww, hh, m⟩) = T ++ (D4 ++ ⟨#[10]⟩)) := by
          show _ = _
          rw [XM.out HG.out, strOfNums_append, strOfNums_append, HTT.out, HD4S.out]; rfl
        go_wp2_with (first
          | (go_at_call 90; refine (HT.out _).mono ?_; rintro e w7 ⟨rfl, rfl⟩)
          | (go_at_call 89; with_reducible refine (HD4.out _).mono ?_; rintro e w6 ⟨rfl, hb6⟩))
        go_ret2
        exact ⟨by rw [X0.out, XF.out, ← ByteArray.append_assoc]; rfl, HBy.out.trans (hb6.mono HBy.out.size)⟩
  · rw [decide_eq_false hm] at HM
    have X0 : Hid (Hj.wr h = .tuple #[.string ⟨#[]⟩, .int .i64 1]) := if_neg hm
    obtain ⟨kd, ww, hh, m⟩ := h
    clear hm HT
    unfold agH at HM ⊢
    go_enter Tryz.func54, Tryz.ntmps54
    go_wp2_with fail
    refine (HM.out _).mono ?_
    rintro e w9 ⟨rfl, hb9⟩
    go_wp2
    go_ret2
    exact ⟨by rw [X0.out]; rfl, ((Below.refl _ w).alloc (Nat.le_refl _) _).trans (hb9.mono (by simp))⟩
end Go.Proofs.YtkjkepnailamnaaGreat
namespace Go.Proofs.YtkjkepnailamnaaGreat
open Go.RowKit
set_option linter.unusedVariables false
namespace Hj
def text (h : Hd.H) : ByteArray := strOfNums (Hd.bytes h)
theorem wr_may {h : Hd.H} (hm : Hd.May h) : wr h = .tuple #[.string (text h), .int .i64 0] := if_pos hm
theorem bytes_fit (h : Hd.H) : ∀ x ∈ Hd.bytes h, 0 ≤ x ∧ x ≤ 255 := by
  intro x hx
  unfold Hd.bytes at hx
  have hd := Nu.decV_bytes
  simp only [List.mem_append] at hx
  rcases hx with ((((((h | h) | h) | h) | h) | h) | h) | h
  · rw [List.mem_singleton.1 h]; omega
  · exact hd _ x h
  · rw [List.mem_singleton.1 h]; omega
  · exact hd _ x h
  · rw [List.mem_singleton.1 h]; omega
  · exact hd _ x h
  · rw [List.mem_singleton.1 h]; omega
  · split at h
    · cases h
    · rcases List.mem_append.1 h with h | h
      · exact hd _ x h
      · rw [List.mem_singleton.1 h]; omega
theorem text_bytes (h : Hd.H) : bytesOf (text h) = Hd.bytes h := bytesOf_strOfNums (bytes_fit h)
theorem text_len (h : Hd.H) : (text h).size = (Hd.bytes h).length := strOfNums_size _
theorem may_fit {h : Hd.H} (hm : Hd.May h) : Fit h := by
  obtain ⟨a, b, c, d, _⟩ := hm
  refine ⟨⟨?_, ?_⟩, ⟨?_, ?_⟩, ⟨?_, ?_⟩, ⟨?_, ?_⟩⟩ <;> omega
theorem text_size {h : Hd.H} (hf : Fit h) : (text h).size ≤ 271 := by
  rw [text_len]
  have a := Nu.decV_len hf.1
  have b := Nu.decV_len hf.2.1
  have c := Nu.decV_len hf.2.2.1
  have d := Nu.decV_len hf.2.2.2
  unfold Hd.bytes
  simp only [List.length_append, List.length_cons, List.length_nil]
  split <;> simp only [List.length_append, List.length_cons, List.length_nil] <;> omega
theorem lim_id {n hi : Int} (h1 : 1 ≤ n) (h2 : n ≤ hi) : Hd.lim n hi = n := (Hd.lim_self (by omega)).2 ⟨h1, h2⟩
theorem limits_id {a b c : Int} (a1 : 1 ≤ a) (a2 : a ≤ 4096) (b1 : 1 ≤ b) (b2 : b ≤ 65536) (c1 : 1 ≤ c) (c2 : c ≤ 65535) : Hd.limits a b c = ⟨a, b, c⟩ := by
  unfold Hd.limits; rw [lim_id a1 a2, lim_id b1 b2, lim_id c1 c2]
end Hj
end Go.Proofs.YtkjkepnailamnaaGreat
namespace Go.Proofs.YtkjkepnailamnaaGreat
open Go.RowKit
set_option linter.unusedVariables false
theorem Hj.zero_at (w : World) (o : Obj) : Hb ((w.alloc o).alloc (.cells #[.int .i64 0, .int .i64 0, .int .i64 0, .int .i64 0] 112)) (w.heap.size + 1) 112 Hd.none := by
  have h := Hb.new (w.alloc o) 112 Hd.none
  rw [World.size_alloc] at h; exact h
theorem Hj.zero_bel (w : World) (o p : Obj) : Below w.heap.size w ((w.alloc o).alloc p) := ((Below.refl _ w).alloc (Nat.le_refl _) o).alloc (by simp) p
set_option maxRecDepth 100000 in
set_option maxHeartbeats 2000000 in
theorem refParse_early (s : ByteArray) (hs : s.size ≤ 100000) (a b c : Int) (w : World)
    (h : ¬ ((h : 2 < s.size) → (s[0].toNat : Int) = 80 ∧ (49 ≤ (s[1].toNat : Int) ∧ (s[1].toNat : Int) ≤ 54) ∧ (Tk.blank (s[2].toNat : Int) = true ∨ (s[2].toNat : Int) = 35)) ∨ s.size ≤ 2) :
    Calls Tryz.prog 60 #[.string s, .agg #[.int .i64 a, .int .i64 b, .int .i64 c]] w (RParR s (Hd.limits a b c) w) := by
  have BZ := Lib.hid (Hj.zero_bel w (.cells #[.int .i64 a, .int .i64 b, .int .i64 c] 24) (.cells #[.int .i64 0, .int .i64 0, .int .i64 0, .int .i64 0] 112))
  have Z0 := Lib.hid (Hj.zero_at w (.cells #[.int .i64 a, .int .i64 b, .int .i64 c] 24))
  generalize hL : Hd.limits a b c = L
  by_cases z0 : s.size = 0
  · have HV : Hid (Hd.parseV L (bytesOf s) = (Hd.none, ((s.size : Nat) : Int), 6)) := by
      show _ = _
      rw [show bytesOf s = [] from List.eq_nil_of_length_eq_zero (by rw [bytesOf_length]; exact z0), z0]; rfl
    have g1 : ¬ (0 : Int) < (s.size : Int) := by omega
    have g2 : ¬ (1 : Int) < (s.size : Int) := by omega
    have g3 : ¬ (2 : Int) < (s.size : Int) := by omega
    have g4 : (s.size : Int) < 3 := by omega
    clear h z0 hL
    go_enter Tryz.func60, Tryz.ntmps60
    go_wp2
    refine bodyPost_ret (Hj.ret3 Tryz.results60 _ _ _ _ rfl (load_rh Z0.out)) rfl ?_
    exact rpar_fin HV.out (by go_num) rfl BZ.out
  have p0 : 0 < s.size := by omega
  have q0 := bytes_at0 p0
  have g1 : (0 : Int) < (s.size : Int) := by omega
  by_cases z1 : ¬ (s[0].toNat : Int) = 80
  · have HV : Hid (Hd.parseV L (bytesOf s) = (Hd.none, 1, 2)) := by show _ = _; rw [q0, Hd.pv_first z1]
    have k1 : ((s[0].toNat : Int) != 80) = true := by simpa using z1
    clear h z0 hL q0 z1
    go_enter Tryz.func60, Tryz.ntmps60
    go_wp2
    refine bodyPost_ret (Hj.ret3 Tryz.results60 _ _ _ _ rfl (load_rh Z0.out)) rfl ?_
    exact rpar_fin HV.out (by go_num) rfl BZ.out
  replace z1 := Classical.not_not.1 z1
  have k1 : ((s[0].toNat : Int) != 80) = false := by simp [z1]
  by_cases z2 : s.size = 1
  · have HV : Hid (Hd.parseV L (bytesOf s) = (Hd.none, ((s.size : Nat) : Int), 6)) := by
      show _ = _
      rw [q0, z1, List.drop_eq_nil_of_le (by rw [bytesOf_length]; omega), Hd.pv_one, z2]; rfl
    have g2 : ¬ (1 : Int) < (s.size : Int) := by omega
    have g3 : ¬ (2 : Int) < (s.size : Int) := by omega
    have g4 : (s.size : Int) < 3 := by omega
    clear h z0 hL q0 z1 z2
    go_enter Tryz.func60, Tryz.ntmps60
    go_wp2
    refine bodyPost_ret (Hj.ret3 Tryz.results60 _ _ _ _ rfl (load_rh Z0.out)) rfl ?_
    exact rpar_fin HV.out (by go_num) rfl BZ.out
  have p1 : 1 < s.size := by omega
  have q1 := bytes_at1 p1
  have g2 : (1 : Int) < (s.size : Int) := by omega
  rw [q1, z1] at q0
  by_cases z3 : ¬ (49 ≤ (s[1].toNat : Int) ∧ (s[1].toNat : Int) ≤ 54)
  · have HV : Hid (Hd.parseV L (bytesOf s) = (Hd.none, 2, 2)) := by show _ = _; rw [q0, Hd.pv_second z3]
    by_cases y1 : (s[1].toNat : Int) < 49
    · clear h z0 hL q0 z1 q1 z3
      go_enter Tryz.func60, Tryz.ntmps60
      go_wp2
      refine bodyPost_ret (Hj.ret3 Tryz.results60 _ _ _ _ rfl (load_rh Z0.out)) rfl ?_
      exact rpar_fin HV.out (by go_num) rfl BZ.out
    · have y2 : 54 < (s[1].toNat : Int) := by omega
      clear h z0 hL q0 z1 q1 z3
      go_enter Tryz.func60, Tryz.ntmps60
      go_wp2
      refine bodyPost_ret (Hj.ret3 Tryz.results60 _ _ _ _ rfl (load_rh Z0.out)) rfl ?_
      exact rpar_fin HV.out (by go_num) rfl BZ.out
  replace z3 := Classical.not_not.1 z3
  have k2 : ¬ (s[1].toNat : Int) < 49 := by omega
  have k3 : ¬ 54 < (s[1].toNat : Int) := by omega
  by_cases z4 : s.size = 2
  · have HV : Hid (Hd.parseV L (bytesOf s) = (Hd.none, ((s.size : Nat) : Int), 6)) := by
      show _ = _
      rw [q0, List.drop_eq_nil_of_le (by rw [bytesOf_length]; omega), Hd.pv_two z3, z4]; rfl
    have g3 : ¬ (2 : Int) < (s.size : Int) := by omega
    have g4 : (s.size : Int) < 3 := by omega
    clear h z0 hL q0 z1 q1 z3 z4
    go_enter Tryz.func60, Tryz.ntmps60
    go_wp2
    refine bodyPost_ret (Hj.ret3 Tryz.results60 _ _ _ _ rfl (load_rh Z0.out)) rfl ?_
    exact rpar_fin HV.out (by go_num) rfl BZ.out
  have p2 : 2 < s.size := by omega
  have q2 := bytes_at2 p2
  have g3 : (2 : Int) < (s.size : Int) := by omega
  have hd : ¬ (Tk.blank (s[2].toNat : Int) = true ∨ (s[2].toNat : Int) = 35) := fun hd => by
    rcases h with h | h
    · exact h (fun _ => ⟨z1, z3, hd⟩)
    · omega
  rw [q2] at q0
  have HV : Hid (Hd.parseV L (bytesOf s) = (Hd.none, 3, 3)) := by show _ = _; rw [q0, Hd.pv_third z3 hd]
  have hb : Tk.blank (s[2].toNat : Int) = false := by
    cases hb : Tk.blank (s[2].toNat : Int) with
    | true => exact absurd (.inl hb) hd
    | false => rfl
  have h35 : ((s[2].toNat : Int) != 35) = true := by simp; intro e; exact hd (.inr (by omega))
  have HBL : Hid (∀ W, Calls Tryz.prog 78 #[.int .u8 (s[2].toNat : Int)] W fun e w' => e = .returned (.bool false) ∧ W = w') := fun W => by have := refBlank_any (s[2].toNat : Int) (by omega) (by have := s[2].toNat_lt; omega) W; rw [hb] at this; exact this
  clear h z0 hL q0 z1 q1 z3 z4 q2 hd hb
  go_enter Tryz.func60, Tryz.ntmps60
  go_wp2_with (go_at_call 78; refine (HBL.out _).mono ?_; rintro e w9 ⟨rfl, rfl⟩)
  refine bodyPost_ret (Hj.ret3 Tryz.results60 _ _ _ _ rfl (load_rh Z0.out)) rfl ?_
  exact rpar_fin HV.out (by go_num) rfl BZ.out
end Go.Proofs.YtkjkepnailamnaaGreat
namespace Go.Proofs.YtkjkepnailamnaaGreat
open Go.RowKit
set_option linter.unusedVariables false
theorem hat_cell {L : Hd.L} {w : World} {g : Nat} (h0 : w.cell? ⟨g, 0, none⟩ = some (.int .i64 L.m0)) (h1 : w.cell? ⟨g, 1, none⟩ = some (.int .i64 L.m1)) (h2 : w.cell? ⟨g, 2, none⟩ = some (.int .i64 L.m2)) (i : Nat) (hi : i < 3) : w.cell? ⟨g, i, none⟩ = some (.int .i64 (L.at i)) := by
  have : i = 0 ∨ i = 1 ∨ i = 2 := by omega
  rcases this with rfl | rfl | rfl
  · exact h0
  · exact h1
  · exact h2
structure Mem (w : World) (W : World) (rb hb g : Nat) (L : Hd.L) (H : Hd.H) : Prop where
  res : Hb W rb 112 Hd.none
  head : Hb W hb 112 H
  c0 : W.cell? ⟨g, 0, none⟩ = some (.int .i64 L.m0)
  c1 : W.cell? ⟨g, 1, none⟩ = some (.int .i64 L.m1)
  c2 : W.cell? ⟨g, 2, none⟩ = some (.int .i64 L.m2)
  bel : Below w.heap.size w W
theorem Mem.later {w W W' : World} {rb hb g : Nat} {L : Hd.L} {H : Hd.H} (h : Mem w W rb hb g L H) (hb' : Below W.heap.size W W') : Mem w W' rb hb g L H :=
  ⟨h.res.later hb', h.head.later hb', cell_later hb' h.c0, cell_later hb' h.c1, cell_later hb' h.c2, h.bel.trans (hb'.mono h.bel.size)⟩
theorem Mem.set {w W : World} {rb hb g : Nat} {L : Hd.L} {H H' : Hd.H} (h : Mem w W rb hb g L H) {o : Nat} {v : Value} (hs : Hb (W.setCell ⟨hb, o, none⟩ v) hb 112 H') (h1 : rb ≠ hb) (h2 : g ≠ hb) (h3 : w.heap.size ≤ hb) : Mem w (W.setCell ⟨hb, o, none⟩ v) rb hb g L H' := by
  have hg := grown_setCell W hb o v
  have hc : ∀ k x, W.cell? ⟨g, k, none⟩ = some x → (W.setCell ⟨hb, o, none⟩ v).cell? ⟨g, k, none⟩ = some x := fun k x hx => by
    rw [World.cell?_of_block (w := W) (a := ⟨g, k, none⟩) (Below.heap_setCell W ⟨hb, o, none⟩ v g h2)]; exact hx
  exact ⟨h.res.kept hg ((by intro e; injection e with e; exact h1 e)), hs, hc _ _ h.c0, hc _ _ h.c1, hc _ _ h.c2, h.bel.setCell h3 v⟩
theorem Hb.put1 {w : World} {b : Nat} {t : TypeId} {h : Hd.H} (hh : Hb w b t h) (x : Int) : Hb (w.setCell ⟨b, 1, none⟩ (.int .i64 x)) b t ⟨h.kd, x, h.h, h.m⟩ := by
  have h' : w.heap[b]? = _ := hh
  simpa [Hb] using Go.heap_setCell_same w b 1 _ _ (.int .i64 x) h'
theorem Hb.put2 {w : World} {b : Nat} {t : TypeId} {h : Hd.H} (hh : Hb w b t h) (x : Int) : Hb (w.setCell ⟨b, 2, none⟩ (.int .i64 x)) b t ⟨h.kd, h.w, x, h.m⟩ := by
  have h' : w.heap[b]? = _ := hh
  simpa [Hb] using Go.heap_setCell_same w b 2 _ _ (.int .i64 x) h'
theorem Hb.put3 {w : World} {b : Nat} {t : TypeId} {h : Hd.H} (hh : Hb w b t h) (x : Int) : Hb (w.setCell ⟨b, 3, none⟩ (.int .i64 x)) b t ⟨h.kd, h.w, h.h, x⟩ := by
  have h' : w.heap[b]? = _ := hh
  simpa [Hb] using Go.heap_setCell_same w b 3 _ _ (.int .i64 x) h'
def AtR (s : ByteArray) (L : Hd.L) (kd : Int) (M i at' : Nat) (hs : Hd.S) (mx : Int) : Prop :=
  i ≤ M ∧ at' ≤ s.size ∧ hs.kd = kd ∧ hs.i = i ∧ hs.t = Tk.new ∧ Hd.Good L hs ∧ (M = 2 → mx = 1 ∧ hs.v2 = 1) ∧
  (i < M → hs.p = 3 ∧ Hd.parseV L (bytesOf s) = Hd.parseF L hs at' ((bytesOf s).drop at')) ∧ (i = M → Hd.parseV L (bytesOf s) = (Hd.hd hs, (at' : Int), 0) ∧ mx = hs.v2)
theorem AtR.step {s : ByteArray} {L : Hd.L} {kd : Int} {M i at' at2 : Nat} {hs : Hd.S} {mx : Int} (h : AtR s L kd M i at' hs mx) (hi : i < M) (hM : Hd.many kd = M) (hl : L.Ok) {t : Tk.S} (hT : Tk.Good (L.at i) t) (hk : t.k = 4) (hn : t.n ≠ 0) (ha : at2 ≤ s.size)
    (hv : Hd.parseV L (bytesOf s) = Hd.parseF L (Hd.take hs t) at2 ((bytesOf s).drop at2)) : AtR s L kd M (i + 1) at2 (hs.num t.n) (if i = 2 then t.n else mx) := by
  obtain ⟨h1, h2, h3, h4, h5, h6, h7, h8, h9⟩ := h
  have hp := (h8 hi).1
  have htk : Hd.take hs t = hs.num t.n := by unfold Hd.take; rw [if_neg (by omega), if_pos hk, if_neg hn]
  rw [htk] at hv
  have hg : Hd.Good L (hs.num t.n) := by
    rw [← htk]
    exact Hd.good_take hl (h6.2.2.2.2.1 (by omega) (by omega)) (h6.2.2.2.2.2.1 (by omega)) (by rw [h4]; exact hT)
  have hm2 := Hd.many_at kd
  refine ⟨hi, ha, h3, by show hs.i + 1 = i + 1; rw [h4], rfl, hg, fun hM2 => ?_, fun hlt => ⟨Hd.num_more (by rw [h3, h4, hM]; omega), hv⟩, fun he => ⟨?_, ?_⟩⟩
  · have := h7 hM2
    refine ⟨by rw [if_neg (by omega)]; exact this.1, ?_⟩
    show (if 2 ≤ hs.i then t.n else hs.v2) = 1
    rw [if_neg (by omega)]; exact this.2
  · rw [hv, Hd.parse_over _ _ (Hd.num_over (by rw [h3, h4, hM]; exact he))]
  · show _ = (if 2 ≤ hs.i then t.n else hs.v2)
    by_cases h22 : i = 2
    · rw [if_pos h22, if_pos (by omega)]
    · rw [if_neg h22, if_neg (by omega)]
      have := h7 (by omega)
      rw [this.1, this.2]
theorem Hd.parse_tok (L : Hd.L) (s : Hd.S) (t u : Tk.S) (i : Nat) (r : List Int) : Hd.parseF L (Hd.take (s.tok t) u) i r = Hd.parseF L (Hd.take s u) i r := by
  by_cases h5 : u.k = 5
  · rw [Hd.take_wrong h5, Hd.take_wrong h5, Hd.parse_wrong _ _ rfl, Hd.parse_wrong _ _ rfl]; rfl
  · unfold Hd.take
    rw [if_neg h5, if_neg h5]
    by_cases h4 : u.k = 4
    · rw [if_pos h4, if_pos h4]
      by_cases h0 : u.n = 0
      · rw [if_pos h0, if_pos h0, Hd.parse_wrong _ _ rfl, Hd.parse_wrong _ _ rfl]; rfl
      · rw [if_neg h0, if_neg h0]; rfl
    · rw [if_neg h4, if_neg h4]; rfl
end Go.Proofs.YtkjkepnailamnaaGreat

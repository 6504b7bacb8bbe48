/- What is put beside, and above, told alike of both sides; both are there; beside what is no matrix nothing is put. Condition: both may be, and are small. -/
import Derived.Test.YtldhhhmihfcalaaRecZB
import Derived.Test.YtldhhhmihfcalaaRecZC
import Derived.Test.YtldhhhmihfcalaaRecZE
import Derived.Test.YtldhhhmihfcalaaRecZF
import Derived.Test.YtldhhhmihfcalaaRecZG
import Derived.Test.YtldhhhmihfcalaaRecI
namespace Go.Proofs.Ytldhhhmihfcalaa
open Go.RowKit
set_option linter.unusedVariables false

theorem sized_small {a b : Int} (h1 : 1 ≤ a) (h2 : a ≤ 10) (h3 : 1 ≤ b) (h4 : b ≤ 10) : Rc.sized a b = true := by
  have : a * b ≤ 10 * 10 := Int.mul_le_mul h2 h4 (by omega) (by omega)
  rw [Rc.sized_iff]; omega
def besL (Wa Ha : Int) (La : List Int) (Wb Hb : Int) (Lb : List Int) : List Int := if Ha = Hb then Rc.rowsOf (fun k => rowF La Wa k ++ rowF Lb Wb k) Ha.toNat else []
def aboL (Wa Ha : Int) (La : List Int) (Wb Hb : Int) (Lb : List Int) : List Int := if Wa = Wb then La ++ Lb else []
/-- two integers, each another one where it can't be -/
def orNone (p : Prop) [Decidable p] (x : Int) : Int := if p then x else 0
def errOf (p : Prop) [Decidable p] : Int := if p then 0 else 1
theorem bes_len {Wa Wb H : Int} {La Lb : List Int} (ha : Rc.Ok Wa H La) (hb : Rc.Ok Wb H Lb) : (Rc.rowsOf (fun k => rowF La Wa k ++ rowF Lb Wb k) H.toNat).length = H.toNat * (Wa + Wb).toNat := by
  refine Rc.rowsOf_length fun k hk => ?_
  have h1 := rowF_len ha k hk
  have h2 := rowF_len hb k hk
  obtain ⟨u1, u2, u3, u4, u5, u6⟩ := ha
  obtain ⟨v1, v2, v3, v4, v5, v6⟩ := hb
  rw [List.length_append, h1, h2]; omega
theorem bes_ok {Wa Wb H : Int} {La Lb : List Int} (ha : Rc.Ok Wa H La) (hb : Rc.Ok Wb H Lb) (hs : Rc.sized (Wa + Wb) H = true) : Rc.Ok (Wa + Wb) H (Rc.rowsOf (fun k => rowF La Wa k ++ rowF Lb Wb k) H.toNat) := by
  obtain ⟨s1, s2, s3, s4, s5⟩ := Rc.sized_iff.1 hs
  exact ⟨s1, s2, s3, s4, s5, bes_len ha hb⟩
theorem abo_ok {W Ha Hb : Int} {La Lb : List Int} (ha : Rc.Ok W Ha La) (hb : Rc.Ok W Hb Lb) (hs : Rc.sized W (Ha + Hb) = true) : Rc.Ok W (Ha + Hb) (La ++ Lb) := by
  obtain ⟨s1, s2, s3, s4, s5⟩ := Rc.sized_iff.1 hs
  obtain ⟨u1, u2, u3, u4, u5, u6⟩ := ha
  obtain ⟨v1, v2, v3, v4, v5, v6⟩ := hb
  refine ⟨s1, s2, s3, s4, s5, ?_⟩
  rw [List.length_append, u6, v6, ← Nat.add_mul]; congr 1; omega
theorem ins_zero {n all : Int} (h1 : 1 ≤ n) (h2 : n ≤ all) : Rc.insV 0 n all = true := by rw [Rc.insV_iff]; omega
theorem ins_behind {x n all : Int} (h0 : 0 ≤ x) (h1 : 1 ≤ n) (h2 : x + n = all) : Rc.insV x n all = true := by rw [Rc.insV_iff]; omega
theorem has_of {W H : Int} {L : List Int} {w h : Int} {M : List Int} {x y : Int} (h1 : Rc.insV x w W = true) (h2 : Rc.insV y h H = true) (h3 : Rc.subL L W x y w h = M) : Rc.hasV W H L w h M x y = true := by
  simp [Rc.hasV, h1, h2, h3]
theorem has_bes1 {Wa Wb H : Int} {La Lb : List Int} (ha : Rc.Ok Wa H La) (hb : Rc.Ok Wb H Lb) : Rc.hasV (Wa + Wb) H (Rc.rowsOf (fun k => rowF La Wa k ++ rowF Lb Wb k) H.toNat) Wa H La 0 0 = true := by
  have hl1 := fun k hk => rowF_len ha k hk
  have hl2 := fun k hk => rowF_len hb k hk
  have hr := row_all ha
  obtain ⟨u1, u2, u3, u4, u5, u6⟩ := ha
  obtain ⟨v1, v2, v3, v4, v5, v6⟩ := hb
  refine has_of (ins_zero u1 (by omega)) (ins_zero u3 (by omega)) ?_
  refine Eq.trans ?_ hr
  refine Rc.rowsOf_congr fun k hk => ?_
  have e : (0 + (k : Int)).toNat = k := by omega
  simp only [Rc.cutL, e]
  have hc := Rc.cut_rowsOf (f := fun k => rowF La Wa k ++ rowF Lb Wb k) (n := H.toNat) (y := k) (W := (Wa + Wb).toNat) (x := (0 : Int).toNat) (m := Wa.toNat) hk (fun j hj => by rw [List.length_append, hl1 j hj, hl2 j hj]; omega) (by omega)
  rw [hc]
  have h1 := hl1 k hk
  show ((rowF La Wa k ++ rowF Lb Wb k).drop 0).take Wa.toNat = rowF La Wa k
  rw [List.drop_zero, ← h1, List.take_left']
  rfl
theorem has_bes2 {Wa Wb H : Int} {La Lb : List Int} (ha : Rc.Ok Wa H La) (hb : Rc.Ok Wb H Lb) : Rc.hasV (Wa + Wb) H (Rc.rowsOf (fun k => rowF La Wa k ++ rowF Lb Wb k) H.toNat) Wb H Lb Wa 0 = true := by
  have hl1 := fun k hk => rowF_len ha k hk
  have hl2 := fun k hk => rowF_len hb k hk
  have hr := row_all hb
  obtain ⟨u1, u2, u3, u4, u5, u6⟩ := ha
  obtain ⟨v1, v2, v3, v4, v5, v6⟩ := hb
  refine has_of (ins_behind (by omega) v1 rfl) (ins_zero v3 (by omega)) ?_
  refine Eq.trans ?_ hr
  refine Rc.rowsOf_congr fun k hk => ?_
  have e : (0 + (k : Int)).toNat = k := by omega
  simp only [Rc.cutL, e]
  have hc := Rc.cut_rowsOf (f := fun k => rowF La Wa k ++ rowF Lb Wb k) (n := H.toNat) (y := k) (W := (Wa + Wb).toNat) (x := Wa.toNat) (m := Wb.toNat) hk (fun j hj => by rw [List.length_append, hl1 j hj, hl2 j hj]; omega) (by omega)
  rw [hc]
  have h1 := hl1 k hk
  have h2 := hl2 k hk
  show ((rowF La Wa k ++ rowF Lb Wb k).drop Wa.toNat).take Wb.toNat = rowF Lb Wb k
  rw [← h1, List.drop_left', ← h2, List.take_length]
  rfl
theorem has_abo1 {W Ha Hb : Int} {La Lb : List Int} (ha : Rc.Ok W Ha La) (hb : Rc.Ok W Hb Lb) : Rc.hasV W (Ha + Hb) (La ++ Lb) W Ha La 0 0 = true := by
  have hr := row_all ha
  obtain ⟨u1, u2, u3, u4, u5, u6⟩ := ha
  obtain ⟨v1, v2, v3, v4, v5, v6⟩ := hb
  refine has_of (ins_zero u1 (by omega)) (ins_zero u3 (by omega)) ?_
  refine Eq.trans ?_ hr
  refine Rc.rowsOf_congr fun k hk => ?_
  have e : (0 + (k : Int)).toNat = k := by omega
  have e2 : (k : Int).toNat = k := by omega
  simp only [rowF, Rc.cutL, e, e2, show (0 : Int).toNat = 0 from rfl, Nat.add_zero]
  have hk2 : k * W.toNat + W.toNat ≤ La.length := by
    rw [u6, ← Nat.succ_mul]; exact Nat.mul_le_mul_right _ hk
  rw [List.drop_append_of_le_length (by omega), List.take_append_of_le_length (by rw [List.length_drop]; omega)]
theorem has_abo2 {W Ha Hb : Int} {La Lb : List Int} (ha : Rc.Ok W Ha La) (hb : Rc.Ok W Hb Lb) : Rc.hasV W (Ha + Hb) (La ++ Lb) W Hb Lb 0 Ha = true := by
  have hr := row_all hb
  obtain ⟨u1, u2, u3, u4, u5, u6⟩ := ha
  obtain ⟨v1, v2, v3, v4, v5, v6⟩ := hb
  refine has_of (ins_zero u1 (by omega)) (ins_behind (by omega) v3 rfl) ?_
  refine Eq.trans ?_ hr
  refine Rc.rowsOf_congr fun k hk => ?_
  have e : (Ha + (k : Int)).toNat = Ha.toNat + k := by omega
  have e2 : (k : Int).toNat = k := by omega
  simp only [rowF, Rc.cutL, e, e2, show (0 : Int).toNat = 0 from rfl, Nat.add_zero, Nat.add_mul]
  rw [← u6, List.drop_append, List.drop_of_length_le (by omega), List.nil_append, Nat.add_sub_cancel_left]

/-- what is handed back is a matrix of these numbers, in memory of the call's own -/
def MatO (e1 e2 e4 : Int) (n3 : Nat) (L : List Int) (w : World) (e : Ending) (w' : World) : Prop :=
  ∃ ad c, e = .returned (.tuple #[.agg #[.int .i64 e1, .int .i64 e2, .slice ad n3 c], .int .i64 e4]) ∧ OwnK .u64 w.heap.size w' ad L ∧ n3 ≤ c ∧ c ≤ 9223372036854775807 ∧ Below w.heap.size w w'
section
variable (Wa Ha Wb Hb : Int) (aa ab : Option Addr) (na nb ca cb : Nat) (La Lb : List Int)
  (ha : Rc.Ok Wa Ha La) (hb : Rc.Ok Wb Hb Lb) (hla : La.length = na) (hlb : Lb.length = nb) (h5a : Wa ≤ 5) (h5b : Ha ≤ 5) (h5c : Wb ≤ 5) (h5d : Hb ≤ 5) (hca : na ≤ ca) (hca2 : ca ≤ 9223372036854775807) (hcb : nb ≤ cb) (hcb2 : cb ≤ 9223372036854775807)
  (w : World) (sa : SlK .u64 w aa na La) (sb : SlK .u64 w ab nb Lb)
include ha hb hla hlb h5a h5b h5c h5d hca hca2 hcb hcb2 sa sb
theorem bes_code {n3 : Nat} (hn : (besL Wa Ha La Wb Hb Lb).length = n3) :
    Calls Try.prog 14 #[.agg #[.int .i64 Wa, .int .i64 Ha, .slice aa na ca], .agg #[.int .i64 Wb, .int .i64 Hb, .slice ab nb cb]] w
      (MatO (orNone (Ha = Hb) (Wa + Wb)) (orNone (Ha = Hb) Ha) (errOf (Ha = Hb)) n3 (besL Wa Ha La Wb Hb Lb) w) := by
  subst hla hlb
  have _h := h5b
  by_cases heq : Ha = Hb
  · have hs : Rc.sized (Wa + Wb) Ha = true := sized_small (by have := ha.1; have := hb.1; omega) (by omega) ha.2.2.1 (by omega)
    refine (beside_yes Wa Ha Wb Hb aa ab ca cb La Lb ha hb heq hs hca hca2 hcb hcb2 w sa sb).mono ?_
    rintro e w' ⟨g, rfl, hg, hbl⟩
    subst heq
    have hl := bes_len ha hb
    rw [two_beside ha hb] at hg
    simp only [besL, if_true] at hn ⊢
    rw [hn] at hl
    refine ⟨some ⟨g, 0, none⟩, Ha.toNat * ((Wa + Wb)).toNat, ?_, ?_, by omega, ?_, hbl⟩
    · simp [orNone, errOf, hl]
    · exact hg.own
    · have h1 := ok_len (bes_ok ha hb hs); rw [hn, hl] at h1; omega
  · refine (beside_no Wa Ha Wb Hb aa ab ca cb La Lb ha hb heq w).mono ?_
    rintro e w' ⟨rfl, hbl⟩
    simp only [besL, if_neg heq] at hn ⊢
    subst hn
    exact ⟨none, 0, by simp [orNone, errOf, heq], .inl rfl, by simp, by omega, hbl⟩
theorem bes_ref {n3 : Nat} (hn : (besL Wa Ha La Wb Hb Lb).length = n3) :
    Calls Try.prog 16 #[.agg #[.int .i64 Wa, .int .i64 Ha, .slice aa na ca], .agg #[.int .i64 Wb, .int .i64 Hb, .slice ab nb cb]] w
      (MatO (orNone (Ha = Hb) (Wa + Wb)) (orNone (Ha = Hb) Ha) (errOf (Ha = Hb)) n3 (besL Wa Ha La Wb Hb Lb) w) := by
  subst hla hlb
  have _h := h5b
  by_cases heq : Ha = Hb
  · have hs : Rc.sized (Wa + Wb) Ha = true := sized_small (by have := ha.1; have := hb.1; omega) (by omega) ha.2.2.1 (by omega)
    refine (refBeside_yes Wa Ha Wb Hb aa ab ca cb La Lb ha hb heq hs hca hca2 hcb hcb2 w sa sb).mono ?_
    rintro e w' ⟨ad, c, rfl, ho, hc, hc2, hbl⟩
    subst heq
    simp only [besL, if_true] at hn ⊢
    rw [hn] at hc
    exact ⟨ad, c, by simp [orNone, errOf, hn], ho, hc, hc2, hbl⟩
  · refine (refBeside_no Wa Ha Wb Hb aa ab ca cb La Lb ha hb heq w).mono ?_
    rintro e w' ⟨rfl, hbl⟩
    simp only [besL, if_neg heq] at hn ⊢
    subst hn
    exact ⟨none, 0, by simp [orNone, errOf, heq], .inl rfl, by simp, by omega, hbl⟩
theorem abo_code {n3 : Nat} (hn : (aboL Wa Ha La Wb Hb Lb).length = n3) :
    Calls Try.prog 17 #[.agg #[.int .i64 Wa, .int .i64 Ha, .slice aa na ca], .agg #[.int .i64 Wb, .int .i64 Hb, .slice ab nb cb]] w
      (MatO (orNone (Wa = Wb) Wa) (orNone (Wa = Wb) (Ha + Hb)) (errOf (Wa = Wb)) n3 (aboL Wa Ha La Wb Hb Lb) w) := by
  subst hla hlb
  by_cases heq : Wa = Wb
  · have hs : Rc.sized Wa (Ha + Hb) = true := sized_small ha.1 (by omega) (by have := ha.2.2.1; have := hb.2.2.1; omega) (by omega)
    refine (above_yes Wa Ha Wb Hb aa ab ca cb La Lb ha hb heq hs hca hca2 hcb hcb2 w sa sb).mono ?_
    rintro e w' ⟨g, rfl, hg, hbl⟩
    subst heq
    have hl := (abo_ok ha hb hs).2.2.2.2.2
    rw [two_above ha hb] at hg
    simp only [aboL, if_true] at hn ⊢
    rw [hn] at hl
    refine ⟨some ⟨g, 0, none⟩, (Ha + Hb).toNat * (Wa).toNat, ?_, ?_, by omega, ?_, hbl⟩
    · simp [orNone, errOf, hl]
    · exact hg.own
    · have h1 := ok_len (abo_ok ha hb hs); rw [hn, hl] at h1; omega
  · refine (above_no Wa Ha Wb Hb aa ab ca cb La Lb ha hb heq w).mono ?_
    rintro e w' ⟨rfl, hbl⟩
    simp only [aboL, if_neg heq] at hn ⊢
    subst hn
    exact ⟨none, 0, by simp [orNone, errOf, heq], .inl rfl, by simp, by omega, hbl⟩
theorem abo_ref {n3 : Nat} (hn : (aboL Wa Ha La Wb Hb Lb).length = n3) :
    Calls Try.prog 18 #[.agg #[.int .i64 Wa, .int .i64 Ha, .slice aa na ca], .agg #[.int .i64 Wb, .int .i64 Hb, .slice ab nb cb]] w
      (MatO (orNone (Wa = Wb) Wa) (orNone (Wa = Wb) (Ha + Hb)) (errOf (Wa = Wb)) n3 (aboL Wa Ha La Wb Hb Lb) w) := by
  subst hla hlb
  by_cases heq : Wa = Wb
  · have hs : Rc.sized Wa (Ha + Hb) = true := sized_small ha.1 (by omega) (by have := ha.2.2.1; have := hb.2.2.1; omega) (by omega)
    refine (refAbove_yes Wa Ha Wb Hb aa ab ca cb La Lb ha hb heq hs hca hca2 hcb hcb2 w sa sb).mono ?_
    rintro e w' ⟨ad, c, rfl, ho, hc, hc2, hbl⟩
    subst heq
    simp only [aboL, if_true] at hn ⊢
    rw [hn] at hc
    exact ⟨ad, c, by simp [orNone, errOf, hn], ho, hc, hc2, hbl⟩
  · refine (refAbove_no Wa Ha Wb Hb aa ab ca cb La Lb ha hb heq w).mono ?_
    rintro e w' ⟨rfl, hbl⟩
    simp only [aboL, if_neg heq] at hn ⊢
    subst hn
    exact ⟨none, 0, by simp [orNone, errOf, heq], .inl rfl, by simp, by omega, hbl⟩
end

/-- a matrix, of which nothing but its numbers is told -/
def HasT (w1 h1 : Int) (np : Nat) (L : List Int) (w2 h2 : Int) (n2 : Nat) (a2 : Option Addr) (c2 : Nat) (M : List Int) (x y : Int) : Prop :=
  ∀ (w : World) (pa : Option Addr) (pc : Nat), SlK .u64 w pa np L → np ≤ pc → pc ≤ 9223372036854775807 → SlK .u64 w a2 n2 M →
    Calls Try.prog 21 #[.agg #[.int .i64 w1, .int .i64 h1, .slice pa np pc], .agg #[.int .i64 w2, .int .i64 h2, .slice a2 n2 c2], .int .i64 x, .int .i64 y] w fun e w' => e = .returned (.bool true) ∧ Below w.heap.size w w'
theorem has_told {w1 h1 w2 h2 x y : Int} {np n2 c2 : Nat} {a2 : Option Addr} {L M : List Int} (hL : Rc.Ok w1 h1 L) (hM : Rc.Ok w2 h2 M) (hn : L.length = np) (hn2 : M.length = n2) (hc : n2 ≤ c2) (hc2 : c2 ≤ 9223372036854775807) (hh : Rc.hasV w1 h1 L w2 h2 M x y = true) : HasT w1 h1 np L w2 h2 n2 a2 c2 M x y := by
  intro w pa pc s1 h3 h4 s2
  subst hn hn2
  have h := has_any w1 h1 w2 h2 x y pa a2 pc c2 L M hL hM h3 h4 hc hc2 w s1 s2
  rwa [hh] at h
def JoinT (F G : Nat) (Wa Ha Wb Hb x y : Int) (aa ab : Option Addr) (na nb ca cb : Nat) (La Lb : List Int) (p1 p2 p4 : Int) (np : Nat) (P : List Int) : Prop :=
  (∀ w : World, SlK .u64 w aa na La → SlK .u64 w ab nb Lb → Calls Try.prog F #[.agg #[.int .i64 Wa, .int .i64 Ha, .slice aa na ca], .agg #[.int .i64 Wb, .int .i64 Hb, .slice ab nb cb]] w (MatO p1 p2 p4 np P w)) ∧
  (∀ w : World, SlK .u64 w aa na La → SlK .u64 w ab nb Lb → Calls Try.prog G #[.agg #[.int .i64 Wa, .int .i64 Ha, .slice aa na ca], .agg #[.int .i64 Wb, .int .i64 Hb, .slice ab nb cb]] w (MatO p1 p2 p4 np P w)) ∧
  P.length = np ∧ np ≤ 16777216 ∧ (p4 = 0 ∨ p4 = 1) ∧
  (p4 = 0 → HasT p1 p2 np P Wa Ha na aa ca La 0 0 ∧ HasT p1 p2 np P Wb Hb nb ab cb Lb x y)
section
variable (Wa Ha Wb Hb : Int) (aa ab : Option Addr) (na nb ca cb : Nat) (La Lb : List Int)
  (ha : Rc.Ok Wa Ha La) (hb : Rc.Ok Wb Hb Lb) (hla : La.length = na) (hlb : Lb.length = nb) (h5a : Wa ≤ 5) (h5b : Ha ≤ 5) (h5c : Wb ≤ 5) (h5d : Hb ≤ 5) (hca : na ≤ ca) (hca2 : ca ≤ 9223372036854775807) (hcb : nb ≤ cb) (hcb2 : cb ≤ 9223372036854775807)
include ha hb hla hlb h5a h5b h5c h5d hca hca2 hcb hcb2
theorem bes_told : ∃ p1 p2 p4 np P, JoinT 14 16 Wa Ha Wb Hb Wa 0 aa ab na nb ca cb La Lb p1 p2 p4 np P := by
  have hs : Rc.sized (Wa + Wb) Ha = true := sized_small (by have := ha.1; have := hb.1; omega) (by omega) ha.2.2.1 (by omega)
  refine ⟨_, _, _, _, _, fun w sa sb => bes_code Wa Ha Wb Hb aa ab na nb ca cb La Lb ha hb hla hlb h5a h5b h5c h5d hca hca2 hcb hcb2 w sa sb rfl, fun w sa sb => bes_ref Wa Ha Wb Hb aa ab na nb ca cb La Lb ha hb hla hlb h5a h5b h5c h5d hca hca2 hcb hcb2 w sa sb rfl, rfl, ?_, ?_, ?_⟩
  · unfold besL; split
    · rename_i heq; subst heq; exact ok_len (bes_ok ha hb hs)
    · simp
  · unfold errOf; split <;> simp
  · intro h0
    have heq : Ha = Hb := by unfold errOf at h0; split at h0 <;> simp_all
    subst heq
    simp only [orNone, besL, if_true]
    exact ⟨has_told (bes_ok ha hb hs) ha rfl hla hca hca2 (has_bes1 ha hb), has_told (bes_ok ha hb hs) hb rfl hlb hcb hcb2 (has_bes2 ha hb)⟩
theorem abo_told : ∃ p1 p2 p4 np P, JoinT 17 18 Wa Ha Wb Hb 0 Ha aa ab na nb ca cb La Lb p1 p2 p4 np P := by
  have hs : Rc.sized Wa (Ha + Hb) = true := sized_small ha.1 (by omega) (by have := ha.2.2.1; have := hb.2.2.1; omega) (by omega)
  refine ⟨_, _, _, _, _, fun w sa sb => abo_code Wa Ha Wb Hb aa ab na nb ca cb La Lb ha hb hla hlb h5a h5b h5c h5d hca hca2 hcb hcb2 w sa sb rfl, fun w sa sb => abo_ref Wa Ha Wb Hb aa ab na nb ca cb La Lb ha hb hla hlb h5a h5b h5c h5d hca hca2 hcb hcb2 w sa sb rfl, rfl, ?_, ?_, ?_⟩
  · unfold aboL; split
    · rename_i heq; subst heq; exact ok_len (abo_ok ha hb hs)
    · simp
  · unfold errOf; split <;> simp
  · intro h0
    have heq : Wa = Wb := by unfold errOf at h0; split at h0 <;> simp_all
    subst heq
    simp only [orNone, aboL, if_true]
    exact ⟨has_told (abo_ok ha hb hs) ha rfl hla hca hca2 (has_abo1 ha hb), has_told (abo_ok ha hb hs) hb rfl hlb hcb hcb2 (has_abo2 ha hb)⟩
end
end Go.Proofs.Ytldhhhmihfcalaa

/- Heads of rasters of bytes, made of any; how many pixels are read. No condition. -/
import Derived.Test.YtflpocnbmpdhiaaZRwZ
import Derived.Test.YtflpocnbmpdhiaaZgAA
namespace Go.Proofs.Ytflpocnbmpdhiaa
open Go.RowKit
set_option linter.unusedVariables false
theorem Rw.bs_in {w : World} {a : Option Addr} {len cap : Nat} {zs : List Int} (h : IsRow .u8 w a len cap zs) (m : Nat) (hm : m ≤ len) : Bt.Bs w a m cap (zs.take m) := by
  obtain ⟨l1, l2, l3, l4⟩ := isrow_len h
  exact ⟨isrow_takeK h m hm, by omega, by omega, fun x hx => wfB (isrow_wfK h x (List.mem_of_mem_take hx))⟩
theorem Rw.headV_in (M : Int) (M0 : 1 ≤ M) (M1 : M ≤ 4096) (h : Hd.H) : Rw.May (Rw.headV M h) ∧ (Rw.headV M h).w ≤ M ∧ (Rw.headV M h).h ≤ M := by
  obtain ⟨a, b, c, d, e⟩ := Pl.goodM_in M M0 h
  have hm := Pl.goodM_may M M0 M1 h
  unfold Rw.headV
  by_cases hk : (Pl.goodM M h).kd < 4
  · rw [if_pos hk]
    refine ⟨⟨?_, by simp only []; omega⟩, by simp only []; omega, by simp only []; omega⟩
    generalize Pl.goodM M h = G at *
    unfold Hd.May Hd.bits at hm ⊢
    unfold Hd.bits at e
    obtain ⟨kd, w, hh, m⟩ := G
    simp only at *
    rcases (show kd = 1 ∨ kd = 2 ∨ kd = 3 by omega) with rfl | rfl | rfl
    all_goals
      simp at hm e ⊢
      omega
  · rw [if_neg hk]
    exact ⟨⟨hm, by omega⟩, by omega, by omega⟩
theorem Rw.may_fit {h : Hd.H} (H : Rw.May h) : Hj.Fit h := by
  have := H.m
  unfold Hj.Fit Nu.I; omega
theorem Rw.readF_len : ∀ (x : List Int) (s : Rw.S) (acc : List Int), Rw.Good s → (∀ c ∈ x, 0 ≤ c ∧ c ≤ 255) → (Rw.readF s acc x).1.length ≤ acc.length + 4096 * x.length
  | [], s, acc, _, _ => by rw [Rw.readF]; simp
  | c :: cs, s, acc, hG, hx => by
    rw [Rw.readF]
    have h1 := Rw.put_len hG c
    obtain ⟨c0, c1⟩ := hx c (List.mem_cons_self ..)
    have h2 := Rw.readF_len cs (Rw.put s c).1 (acc ++ (Rw.put s c).2) (Rw.good_put hG c c0 c1) fun d hd => hx d (List.mem_cons_of_mem _ hd)
    split
    · simp only [List.length_append, List.length_cons]; omega
    split
    · simp
    · simp only [List.length_append, List.length_cons] at h2 ⊢; omega
theorem Rw.readV_len (h : Hd.H) (x : List Int) (hx : ∀ c ∈ x, 0 ≤ c ∧ c ≤ 255) : (Rw.readV h x).1.length ≤ 4096 * x.length := by
  unfold Rw.readV
  split
  · rename_i hm
    have := Rw.readF_len x (Rw.new h) [] (Rw.good_new hm) hx
    simpa using this
  · simp
/-- what Read comes to, told by the plain answer -/
def RwdV (w : World) (l : List Int) (n : Nat) (er : Int) (e : Ending) (w' : World) : Prop :=
  ∃ a c, e = .returned (.tuple #[.slice a n c, .int .i64 er]) ∧ SlK .u64 w' a n l ∧ Below w.heap.size w w'
theorem rwdv {t : List Int × Int} {w w' : World} {e : Ending} (h : RwdR t w e w') : RwdV w t.1 t.1.length t.2 e w' := h
end Go.Proofs.Ytflpocnbmpdhiaa

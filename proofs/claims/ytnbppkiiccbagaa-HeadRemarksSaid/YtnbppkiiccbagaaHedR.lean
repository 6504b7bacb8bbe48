/- Blanks and remarks between a head's numbers change nothing of it: plain facts. No condition. -/
import Derived.Test.YtnbppkiiccbagaaHedX
import Derived.Test.YtnbppkiiccbagaaTokQ
namespace Go.Proofs.Ytnbppkiiccbagaa
open Go.RowKit
set_option linter.unusedVariables false
namespace Hd
/-- a remark behind a number ends it with its line -/
theorem parse_ends_rem {l : L} {s : S} {k : Int} (h : k ≠ 0) (i : Nat) {c : Int} (hc : Tk.line c = true) (cs : List Int) : parseF l (s.tok ⟨3, k, 9, true⟩) i (c :: cs) = parseF l (s.num k) (i + 1) cs := by
  rw [parse_cons i c cs (by show (3 : Nat) ≤ 3; omega), put_in rfl]
  congr 1
  show take (s.tok _) (Tk.put (l.at s.i) ⟨3, k, 9, true⟩ c) = _
  rw [Tk.put_out3 hc, take_over h]; rfl
/-- a remark ahead, a blank, and a number's digits -/
theorem runs_rem {m c k e : Int} {r : List Int} (hr : ∀ x ∈ r, Tk.line x = false) (he : Tk.line e = true) (hc : Tk.blank c = true) (h0 : 0 ≤ k) (h1 : k ≤ m) : Tk.runs m Tk.new (35 :: (r ++ (e :: c :: Nu.decV k))) ⟨2, k, 9, true⟩ := by
  refine ⟨by rw [Tk.put_remA]; decide, ?_⟩
  rw [Tk.put_remA]
  refine Tk.runs_app r (Tk.runs_in1 r hr) ⟨by rw [Tk.put_out1 he]; decide, ?_⟩
  rw [Tk.put_out1 he]
  refine ⟨by rw [Tk.put_ahead hc]; decide, ?_⟩
  rw [Tk.put_ahead hc]
  exact Tk.digs_runs _ (Tk.digs_dec h0 h1)
theorem runs_rem3 {m c k e : Int} {r : List Int} (hr : ∀ x ∈ r, Tk.line x = false) (he : Tk.line e = true) (hc : Tk.blank c = true) (h0 : 0 ≤ k) (h1 : k ≤ m) : Tk.runs m Tk.new ((35 :: (r ++ (e :: c :: Nu.decV k))) ++ (35 :: r)) ⟨3, k, 9, true⟩ := by
  refine Tk.runs_app _ (runs_rem hr he hc h0 h1) ⟨by rw [Tk.put_remD]; simp, ?_⟩
  rw [Tk.put_remD]
  exact Tk.runs_in3 r hr
theorem runs_blank_dec {m c k : Int} (hc : Tk.blank c = true) (h0 : 0 ≤ k) (h1 : k ≤ m) : Tk.runs m Tk.new (c :: Nu.decV k) ⟨2, k, 9, true⟩ := by
  refine ⟨by rw [Tk.put_ahead hc]; decide, ?_⟩
  rw [Tk.put_ahead hc]
  exact Tk.digs_runs _ (Tk.digs_dec h0 h1)
/-- what is told of a head with remarks between -/
theorem parse_rem {l : L} {kd w h m c : Int} {r : List Int} (hm : May ⟨kd, w, h, m⟩) (hw : w ≤ l.m0) (hh : h ≤ l.m1) (hx : m ≤ l.m2) (hr : ∀ x ∈ r, Tk.line x = false) (hc : Tk.blank c = true) (tail : List Int) (n : Nat)
    (ht : tail = if bits kd = true then [c] else (35 :: r) ++ [10] ++ (c :: Nu.decV m) ++ [c])
    (hn : n = (80 :: (Nu.decV kd ++ ((35 :: (r ++ (10 :: c :: Nu.decV w))) ++ (c :: ((35 :: (r ++ (13 :: c :: Nu.decV h))) ++ tail))))).length) :
    parseV l (80 :: (Nu.decV kd ++ ((35 :: (r ++ (10 :: c :: Nu.decV w))) ++ (c :: ((35 :: (r ++ (13 :: c :: Nu.decV h))) ++ tail))))) = (⟨kd, w, h, m⟩, (n : Int), 0) := by
  obtain ⟨⟨a1, a2⟩, ⟨b1, b2⟩, ⟨c1, c2⟩, ⟨d1, d2⟩, e1⟩ := hm
  simp only at a1 a2 b1 b2 c1 c2 d1 d2 e1
  have l10 : Tk.line 10 = true := by decide
  have l13 : Tk.line 13 = true := by decide
  unfold parseV
  rw [parse_kind a1 a2, List.cons_append, parse_third rfl _ (.inr rfl), s3_tok, ← List.cons_append]
  rw [parse_runs _ (s3 kd) 2 _ rfl (runs_rem hr l10 hc (by omega) hw), parse_ends_num (by omega) _ hc]
  have p1 : ((s3 kd).num w).p = 3 := num_more (by have := many_at kd; show 0 + 1 ≠ many kd; omega)
  have i1 : ((s3 kd).num w).i = 1 := rfl
  by_cases hb : bits kd = true
  · rw [if_pos hb] at ht
    subst ht
    rw [parse_runs _ ((s3 kd).num w) _ _ p1 (runs_rem hr l13 hc (by omega) (by rw [i1]; exact hh)), parse_ends_num (by omega) _ hc]
    rw [parse_over _ _ (num_over (by rw [i1]; show 1 + 1 = many kd; rw [many_bits hb]))]
    obtain rfl : m = 1 := e1 hb
    refine Prod.ext rfl (Prod.ext ?_ rfl)
    rw [hn, Nu.decV_pos (n := kd) (by omega) (by omega)]
    simp only [List.length_append, List.length_cons, List.length_nil]
    omega
  · rw [if_neg hb] at ht
    subst ht
    have p2 : (((s3 kd).num w).num h).p = 3 := num_more (by rw [i1]; show 1 + 1 ≠ many kd; rw [many_more hb]; decide)
    have i2 : (((s3 kd).num w).num h).i = 2 := rfl
    rw [show (35 :: (r ++ (13 :: c :: Nu.decV h))) ++ ((35 :: r) ++ [10] ++ (c :: Nu.decV m) ++ [c]) = ((35 :: (r ++ (13 :: c :: Nu.decV h))) ++ (35 :: r)) ++ (10 :: ((c :: Nu.decV m) ++ [c])) by simp only [List.append_assoc, List.cons_append, List.nil_append]]
    rw [parse_runs _ ((s3 kd).num w) _ _ p1 (runs_rem3 hr l13 hc (by omega) (by rw [i1]; exact hh)), parse_ends_rem (by omega) _ l10]
    rw [parse_runs _ (((s3 kd).num w).num h) _ _ p2 (runs_blank_dec hc (by omega) (by rw [i2]; exact hx)), parse_ends_num (by omega) _ hc]
    rw [parse_over _ _ (num_over (by rw [i2]; show 2 + 1 = many kd; rw [many_more hb]))]
    refine Prod.ext rfl (Prod.ext ?_ rfl)
    rw [hn, Nu.decV_pos (n := kd) (by omega) (by omega)]
    simp only [List.length_append, List.length_cons, List.length_nil]
    omega
end Hd
namespace Hj
theorem rem_bytes {kd w h c : Int} {o : ByteArray} {r : List Int} (ho : bytesOf o = 35 :: r) (c0 : 0 ≤ c) (c1 : c ≤ 255) (F : ByteArray) :
    bytesOf ((⟨#[80]⟩ : ByteArray) ++ strOfNums (Nu.decV kd) ++ o ++ ⟨#[10]⟩ ++ strOfNums [c] ++ strOfNums (Nu.decV w) ++ strOfNums [c] ++ o ++ ⟨#[13]⟩ ++ strOfNums [c] ++ strOfNums (Nu.decV h) ++ F) =
      80 :: (Nu.decV kd ++ ((35 :: (r ++ (10 :: c :: Nu.decV w))) ++ (c :: ((35 :: (r ++ (13 :: c :: Nu.decV h))) ++ bytesOf F)))) := by
  have hcb : bytesOf (strOfNums [c]) = [c] := bytesOf_strOfNums (xs := [c]) (by intro x hx; rw [List.mem_singleton.1 hx]; omega)
  simp only [bytesOf_append, ho, hcb]
  rw [bytesOf_strOfNums (Nu.decV_bytes kd), bytesOf_strOfNums (Nu.decV_bytes w), bytesOf_strOfNums (Nu.decV_bytes h)]
  rw [show bytesOf ⟨#[80]⟩ = [80] from rfl, show bytesOf ⟨#[10]⟩ = [10] from rfl, show bytesOf ⟨#[13]⟩ = [13] from rfl]
  simp only [List.append_assoc, List.cons_append, List.nil_append]
theorem rem_parse {G : Hd.H} (hm : Hd.May G) {l : Hd.L} (hw : G.w ≤ l.m0) (hh : G.h ≤ l.m1) (hx : G.m ≤ l.m2) {o : ByteArray} (ho : Tk.Rem o) {c : Int} (hc : Tk.blank c = true) (c0 : 0 ≤ c) (c1 : c ≤ 255) (F T : ByteArray)
    (hF : F = if Hd.bits G.kd = true then strOfNums [c] else o ++ ⟨#[10]⟩ ++ strOfNums [c] ++ strOfNums (Nu.decV G.m) ++ strOfNums [c])
    (hT : T = (⟨#[80]⟩ : ByteArray) ++ strOfNums (Nu.decV G.kd) ++ o ++ ⟨#[10]⟩ ++ strOfNums [c] ++ strOfNums (Nu.decV G.w) ++ strOfNums [c] ++ o ++ ⟨#[13]⟩ ++ strOfNums [c] ++ strOfNums (Nu.decV G.h) ++ F) :
    Hd.parseV l (bytesOf T) = (G, (T.size : Int), 0) := by
  obtain ⟨kd, w, h, m⟩ := G
  obtain ⟨r, h1, h2⟩ := ho
  have hcb : bytesOf (strOfNums [c]) = [c] := bytesOf_strOfNums (xs := [c]) (by intro x hx; rw [List.mem_singleton.1 hx]; omega)
  have hb := rem_bytes (kd := kd) (w := w) (h := h) h1 c0 c1 F
  simp only at hT hF hw hh hx
  rw [← hT] at hb
  rw [hb]
  refine Hd.parse_rem hm hw hh hx h2 hc _ T.size ?_ ?_
  · rw [hF]
    split
    · exact hcb
    · simp only [bytesOf_append, h1, hcb]
      rw [bytesOf_strOfNums (Nu.decV_bytes m), show bytesOf ⟨#[10]⟩ = [10] from rfl]
      simp only [List.append_assoc, List.cons_append, List.nil_append]
  · rw [← bytesOf_length, hb]
end Hj
end Go.Proofs.Ytnbppkiiccbagaa

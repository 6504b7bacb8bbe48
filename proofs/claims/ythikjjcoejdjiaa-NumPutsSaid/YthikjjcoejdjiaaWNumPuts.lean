/- NumPuts: a number's bytes are the document's, or it is refused; they are got as it was, whatever is behind: the walk of the law. No condition. -/
import Derived.Test.YthikjjcoejdjiaaNumP
import Derived.Laws.AppendOwnNone
namespace Go.Proofs.Ythikjjcoejdjiaa
open Go.RowKit
set_option linter.unusedVariables false

/-- the source of an append: nothing, or a row -/
def Src (w : World) (a : Option Addr) (m : Nat) (zs : List Int) : Prop :=
  zs.length = m ∧ ((a = none ∧ m = 0) ∨ ∃ x, a = some x ∧ ∀ j u, (zs.map (Value.int .u8))[j]? = some u → w.cell? (x.add j) = some u)
theorem Src.later {w w' : World} {a : Option Addr} {m : Nat} {zs : List Int} (h : Src w a m zs) (hb : Below w.heap.size w w') : Src w' a m zs := by
  obtain ⟨h1, h2⟩ := h
  refine ⟨h1, ?_⟩
  rcases h2 with h2 | ⟨x, hx, hc⟩
  · exact .inl h2
  · exact .inr ⟨x, hx, fun j u hu => cell_later hb (hc j u hu)⟩
theorem isrow_src {w : World} {a : Option Addr} {len cap : Nat} {zs : List Int} (h : IsRow .u8 w a len cap zs) (n : Nat) (hn : n ≤ len) : Src w a n (zs.take n) := by
  have hl := isrow_len h
  refine ⟨by rw [List.length_take]; omega, ?_⟩
  rcases h with ⟨rfl, rfl, _, rfl⟩ | ⟨x, rfl, h1, h2, h3, h4, _⟩
  · exact .inl ⟨rfl, by omega⟩
  · refine .inr ⟨x, rfl, fun j u hu => ?_⟩
    rw [List.getElem?_map, List.getElem?_take] at hu
    split at hu
    · rename_i hj
      rw [List.getElem?_eq_getElem (by omega)] at hu
      simp at hu; subst hu
      rw [h4 j (by omega), List.getD_eq_getElem?_getD, List.getElem?_eq_getElem (by omega)]; rfl
    · simp at hu
theorem wf_bytes {zs : List Int} (h : ∀ n ∈ zs, (Lit.int .u8 n).wf = true) : ∀ n ∈ zs, 0 ≤ n ∧ n ≤ 255 := fun n hn => wfB (h n hn)

theorem slk_own {q : IntKind} {W : World} {base : Nat} {e : TypeId} {g n cap : Nat} {zs : List Int} (hn : zs.length = n) (h : W.ownsRow base e 1 (.slice (some ⟨g, 0, none⟩) n cap) n (zs.map (Value.int q))) : SlK q W (some ⟨g, 0, none⟩) n zs := by
  refine ⟨hn, .inr ⟨g, 0, rfl, fun i hi => ?_⟩⟩
  rw [Nat.zero_add, h.cellAt i (by omega), List.getElem?_map, List.getElem?_eq_getElem (by omega), List.getD_eq_getElem?_getD, List.getElem?_eq_getElem (by omega)]; rfl
theorem slk_own2 {q : IntKind} {W : World} {base : Nat} {e : TypeId} {g n cap : Nat} {xs zs : List Int} (hn : (xs ++ zs).length = n) (h : W.ownsRow base e 1 (.slice (some ⟨g, 0, none⟩) n cap) n (xs.map (Value.int q) ++ zs.map (Value.int q))) : SlK q W (some ⟨g, 0, none⟩) n (xs ++ zs) :=
  slk_own hn (by rw [List.map_append]; exact h)
theorem cells_src {W : World} {g n : Nat} {ps : List Int} (hn : ps.length = n) (hc : ∀ i, i < n → W.cell? ⟨g, i, none⟩ = some (.int .u8 (ps.getD i 0))) : ∀ j u, (ps.map (Value.int .u8))[j]? = some u → W.cell? ((⟨g, 0, none⟩ : Addr).add j) = some u := by
  intro j u hu
  rw [List.getElem?_map] at hu
  rcases Nat.lt_or_ge j ps.length with hj | hj
  · rw [List.getElem?_eq_getElem hj] at hu
    rw [addrK_add, Nat.zero_add, hc j (by omega), ← hu, List.getD_eq_getElem?_getD, List.getElem?_eq_getElem hj]; rfl
  · rw [List.getElem?_eq_none hj] at hu; cases hu
theorem one_cells (zs : List Int) : ∀ u ∈ zs.map (Value.int .u8), u.oneCell' = true := by
  intro u hu
  obtain ⟨y, _, rfl⟩ := List.mem_map.1 hu
  rfl
theorem max_small {n : Nat} (h : n ≤ 65536) : n ≤ maxLen := by unfold maxLen; omega
theorem ownsRow_pos {W : World} {base : Nat} {e : TypeId} {size : Nat} {v : Value} {k : Nat} {xs : List Value} (h : W.ownsRow base e size v k xs) (hk : 0 < k) : ∃ g cap, v = .slice (some ⟨g, 0, none⟩) k cap := by
  rcases h.2 with ⟨_, h0⟩ | ⟨g, cap, _, rfl, _⟩
  · omega
  · exact ⟨g, cap, rfl⟩

set_option maxRecDepth 100000 in
set_option maxHeartbeats 8000000 in
theorem numPuts_walk (a0 : Int) (a1 : Option Addr) (len1 cap1 : Nat) (z1 : List Int) (w : World) (w0 : (Lit.int .i64 a0).wf = true) (w1 : IsRow .u8 w a1 len1 cap1 z1) :
    Calls Try.prog 6 #[.int .i64 a0, .slice a1 len1 cap1] w fun e w' => e = .returned (.bool true) ∧ Below w.heap.size w w' := by
  have h1 : Hid (Nu.I a0) := wfI w0
  obtain ⟨l1, l2, l3, l4⟩ := isrow_len w1
  obtain ⟨m, hm, hmm⟩ : ∃ m, m = min len1 5 ∧ ((len1 ≤ 5 ∧ m = len1) ∨ (5 < len1 ∧ m = 5)) := ⟨_, rfl, by omega⟩
  have hm1 : m ≤ len1 := by omega
  have hm5 : m ≤ 5 := by omega
  have hsrc := Lib.hid (isrow_src w1 m hm1)
  have hzb := Lib.hid (fun n (hn : n ∈ z1.take m) => wf_bytes (isrow_wfK w1) n (List.mem_of_mem_take hn))
  have hzl : (z1.take m).length = m := by rw [List.length_take]; omega
  generalize z1.take m = zs at hsrc hzb hzl
  have HZL := Lib.hid hzl
  have W1 := Lib.hid w1
  clear w0 w1 hzl hm
  obtain ⟨k0, k1⟩ := Nu.limit_lt a0
  obtain ⟨k, hk⟩ : ∃ k, Hid (Nu.limit a0 = k) := ⟨_, rfl⟩
  rw [hk.out] at k0 k1
  obtain ⟨p9, pp, -⟩ := Nu.put_len9 k0 k1
  have HG := Lib.hid (Nu.get_put zs k k0 k1)
  have HPB := Lib.hid (Nu.putV_bytes k)
  obtain ⟨ps, hps⟩ : ∃ ps, Hid (Nu.putV k = ps) := ⟨_, rfl⟩
  rw [hps.out] at p9 pp HG HPB
  obtain ⟨n, hn⟩ : ∃ n, Hid (ps.length = n) := ⟨_, rfl⟩
  rw [hn.out] at p9 pp
  obtain ⟨xs, hxs⟩ : ∃ xs, Hid (Nu.putV a0 = xs) := ⟨_, rfl⟩
  obtain ⟨c, hc⟩ : ∃ c : Int, Hid ((if Nu.putOk a0 then 0 else 1) = c) := ⟨_, rfl⟩
  obtain ⟨i0, hi, hz0, hz1, hz2⟩ := info_parts Try.info_u8
  have hB := Below.refl w.heap.size w
  have HG : Hid (Nu.getV (ps ++ zs) = (k, (n : Int), 0)) := by rw [← hn.out]; exact HG.out
  obtain ⟨hz0', hs⟩ := hsrc.out
  rcases hs with ⟨ha, hm0⟩ | ⟨x, ha, hcx⟩
  · subst ha
    have HZ0 : Hid (zs = []) := List.eq_nil_of_length_eq_zero (by rw [HZL.out]; exact hm0)
    obtain ⟨rfl, rfl⟩ : len1 = 0 ∧ cap1 = 0 := by
      rcases W1.out with ⟨_, e1, e2, _⟩ | ⟨_, e, _⟩
      · exact ⟨e1, e2⟩
      · cases e
    subst hm0
    clear hmm hsrc hz0' l1 l2 l3 l4 hm1 hm5
    go_enter Try.func6, Try.ntmps6
    go_wp2_with (first
      | (go_at_call 10; refine (limit_any a0 h1.out _).mono ?_; rw [hk.out]; rintro e w1 ⟨rfl, rfl⟩)
      | (go_at_call 20; first
        | ((with_reducible refine (put_any a0 h1.out _).mono ?_); unfold PutR; rw [hxs.out, hc.out]; rintro e w1 ⟨ad, cap, rfl, ho, hb1, hcap⟩; replace hB := bel_step hB hb1; have S1 := Lib.hid ho.sl; clear ho)
        | ((with_reducible refine (put_two k k0 k1 _).mono ?_); rw [hps.out, hn.out]; rintro e w3 ⟨g, cap3, rfl, hg0, hg1, hcell, hb3, hcap3⟩; replace hB := bel_step hB hb3; have C1 := conv_slk (cap := cap) (S1.out.below ((hb2.trans (hb3.mono hb2.size)))); have C2 := conv_slk (cap := cap2) (S2.out.below hb3); have HC := Lib.hid hcell; have hsz := hB.size; clear hcell))
      | (go_at_call 21; refine (refPut_any a0 h1.out _).mono ?_; unfold PutR; rw [hxs.out, hc.out]; rintro e w2 ⟨ad2, cap2, rfl, ho2, hb2, hcap2⟩; replace hB := bel_step hB hb2; have S2 := Lib.hid ho2.sl; clear ho2)
      | (at_builtin; refine wpList_append_own _ rfl _ _ 33 rfl w.heap.size 5 i0 (.int .u8 0) 1 1 Try.underlying33 hi hz0 hz1 hz2 rfl (by decide) (.slice none 0 0) 0 [] rfl (World.ownsRow_nil _ _ _ _) ⟨g, 0, none⟩ n cap3 (ps.map (Value.int .u8)) rfl (by simp [hn.out]) (cells_src hn.out HC.out) (one_cells _) (max_small (by omega)) (by omega) hsz ?_; intro v4 w4 hown4 hgrow4 _; replace hown4 : w4.ownsRow w.heap.size 5 1 v4 n (ps.map (Value.int .u8)) := (by simpa using hown4); obtain ⟨g4, cap4, rfl⟩ := ownsRow_pos hown4 pp; have hB4 := hB.grown hgrow4 hsz (fun j ej => by cases ej); have hsz4 := hB4.size; have O4 := Lib.hid hown4; clear hown4)
      | (at_builtin; refine wpList_append_own_none rfl _ _ 33 rfl w.heap.size 5 i0 1 Try.underlying33 hi _ n (ps.map (Value.int .u8)) rfl O4.out rfl ?_; have hB5 := hB4; have S5 : Hid (SlK .u8 w4 (some ⟨g4, 0, none⟩) n (ps ++ zs)) := Lib.hid (slk_own (by simp [hn.out, HZL.out]) (by rw [HZ0.out, List.append_nil]; exact O4.out)))
      | (go_at_call 22; refine (get_two _ _ _ _ _ (by omega) S5.out (by intro y hy; rcases List.mem_append.1 hy with hy | hy; exact HPB.out y hy; exact hzb.out y hy) k n 0 HG.out).mono ?_; rintro e w6 ⟨rfl, rfl⟩)
      | (go_at_call 14; refine (lives_any _).mono ?_; rintro e w8 ⟨rfl, hb8⟩; replace hB5 := bel_step hB5 hb8))
    go_ret
    exact ⟨rfl, hB5⟩
  · subst ha
    have HCX := Lib.hid hcx
    clear hcx hz0' hsrc
    rcases hmm with ⟨hlt, hme⟩ | ⟨hlt, hme⟩
    · have kd : decide (5 < (len1 : Int)) = false := by simp; omega
      obtain rfl : len1 = m := hme.symm
      go_enter Try.func6, Try.ntmps6
      go_wp2_with (first
        | (go_at_call 10; refine (limit_any a0 h1.out _).mono ?_; rw [hk.out]; rintro e w1 ⟨rfl, rfl⟩)
        | (go_at_call 20; first
          | ((with_reducible refine (put_any a0 h1.out _).mono ?_); unfold PutR; rw [hxs.out, hc.out]; rintro e w1 ⟨ad, cap, rfl, ho, hb1, hcap⟩; replace hB := bel_step hB hb1; have S1 := Lib.hid ho.sl; clear ho)
          | ((with_reducible refine (put_two k k0 k1 _).mono ?_); rw [hps.out, hn.out]; rintro e w3 ⟨g, cap3, rfl, hg0, hg1, hcell, hb3, hcap3⟩; replace hB := bel_step hB hb3; have C1 := conv_slk (cap := cap) (S1.out.below ((hb2.trans (hb3.mono hb2.size)))); have C2 := conv_slk (cap := cap2) (S2.out.below hb3); have HC := Lib.hid hcell; have hsz := hB.size; clear hcell))
        | (go_at_call 21; refine (refPut_any a0 h1.out _).mono ?_; unfold PutR; rw [hxs.out, hc.out]; rintro e w2 ⟨ad2, cap2, rfl, ho2, hb2, hcap2⟩; replace hB := bel_step hB hb2; have S2 := Lib.hid ho2.sl; clear ho2)
        | (at_builtin; refine wpList_append_own _ rfl _ _ 33 rfl w.heap.size 5 i0 (.int .u8 0) 1 1 Try.underlying33 hi hz0 hz1 hz2 rfl (by decide) (.slice none 0 0) 0 [] rfl (World.ownsRow_nil _ _ _ _) ⟨g, 0, none⟩ n cap3 (ps.map (Value.int .u8)) rfl (by simp [hn.out]) (cells_src hn.out HC.out) (one_cells _) (max_small (by omega)) (by omega) hsz ?_; intro v4 w4 hown4 hgrow4 _; replace hown4 : w4.ownsRow w.heap.size 5 1 v4 n (ps.map (Value.int .u8)) := (by simpa using hown4); obtain ⟨g4, cap4, rfl⟩ := ownsRow_pos hown4 pp; have hB4 := hB.grown hgrow4 hsz (fun j ej => by cases ej); have hsz4 := hB4.size; have O4 := Lib.hid hown4; clear hown4)
        | (at_builtin; refine wpList_append_own _ rfl _ _ 33 rfl w.heap.size 5 i0 (.int .u8 0) 1 1 Try.underlying33 hi hz0 hz1 hz2 rfl (by decide) _ n (ps.map (Value.int .u8)) rfl O4.out x len1 _ (zs.map (Value.int .u8)) rfl (by simp [HZL.out]) (fun j u hu => cell_later hB4 (HCX.out j u hu)) (one_cells _) (max_small (by omega)) (by omega) hsz4 ?_; intro v5 w5 hown5 hgrow5 _; obtain ⟨g5, cap5, rfl⟩ := ownsRow_pos hown5 (by omega); have hB5 := hB4.grown hgrow5 hsz4 (fun j ej => (O4.out.lt j ej).1); have S5 : Hid (SlK .u8 w5 (some ⟨g5, 0, none⟩) (n + len1) (ps ++ zs)) := Lib.hid (slk_own2 (by simp [hn.out, HZL.out]) hown5); clear hown5)
        | (go_at_call 22; refine (get_two _ _ _ _ _ (by omega) S5.out (by intro y hy; rcases List.mem_append.1 hy with hy | hy; exact HPB.out y hy; exact hzb.out y hy) k n 0 HG.out).mono ?_; rintro e w6 ⟨rfl, rfl⟩)
        | (go_at_call 14; refine (lives_any _).mono ?_; rintro e w8 ⟨rfl, hb8⟩; replace hB5 := bel_step hB5 hb8))
      go_ret
      exact ⟨rfl, hB5⟩
    · subst hme
      have kd : decide (5 < (len1 : Int)) = true := by simp; omega
      go_enter Try.func6, Try.ntmps6
      go_wp2_with (first
        | (go_at_call 10; refine (limit_any a0 h1.out _).mono ?_; rw [hk.out]; rintro e w1 ⟨rfl, rfl⟩)
        | (go_at_call 20; first
          | ((with_reducible refine (put_any a0 h1.out _).mono ?_); unfold PutR; rw [hxs.out, hc.out]; rintro e w1 ⟨ad, cap, rfl, ho, hb1, hcap⟩; replace hB := bel_step hB hb1; have S1 := Lib.hid ho.sl; clear ho)
          | ((with_reducible refine (put_two k k0 k1 _).mono ?_); rw [hps.out, hn.out]; rintro e w3 ⟨g, cap3, rfl, hg0, hg1, hcell, hb3, hcap3⟩; replace hB := bel_step hB hb3; have C1 := conv_slk (cap := cap) (S1.out.below ((hb2.trans (hb3.mono hb2.size)))); have C2 := conv_slk (cap := cap2) (S2.out.below hb3); have HC := Lib.hid hcell; have hsz := hB.size; clear hcell))
        | (go_at_call 21; refine (refPut_any a0 h1.out _).mono ?_; unfold PutR; rw [hxs.out, hc.out]; rintro e w2 ⟨ad2, cap2, rfl, ho2, hb2, hcap2⟩; replace hB := bel_step hB hb2; have S2 := Lib.hid ho2.sl; clear ho2)
        | (at_builtin; refine wpList_append_own _ rfl _ _ 33 rfl w.heap.size 5 i0 (.int .u8 0) 1 1 Try.underlying33 hi hz0 hz1 hz2 rfl (by decide) (.slice none 0 0) 0 [] rfl (World.ownsRow_nil _ _ _ _) ⟨g, 0, none⟩ n cap3 (ps.map (Value.int .u8)) rfl (by simp [hn.out]) (cells_src hn.out HC.out) (one_cells _) (max_small (by omega)) (by omega) hsz ?_; intro v4 w4 hown4 hgrow4 _; replace hown4 : w4.ownsRow w.heap.size 5 1 v4 n (ps.map (Value.int .u8)) := (by simpa using hown4); obtain ⟨g4, cap4, rfl⟩ := ownsRow_pos hown4 pp; have hB4 := hB.grown hgrow4 hsz (fun j ej => by cases ej); have hsz4 := hB4.size; have O4 := Lib.hid hown4; clear hown4)
        | (at_builtin; refine wpList_append_own _ rfl _ _ 33 rfl w.heap.size 5 i0 (.int .u8 0) 1 1 Try.underlying33 hi hz0 hz1 hz2 rfl (by decide) _ n (ps.map (Value.int .u8)) rfl O4.out x 5 _ (zs.map (Value.int .u8)) rfl (by simp [HZL.out]) (fun j u hu => cell_later hB4 (HCX.out j u hu)) (one_cells _) (max_small (by omega)) (by omega) hsz4 ?_; intro v5 w5 hown5 hgrow5 _; obtain ⟨g5, cap5, rfl⟩ := ownsRow_pos hown5 (by omega); have hB5 := hB4.grown hgrow5 hsz4 (fun j ej => (O4.out.lt j ej).1); have S5 : Hid (SlK .u8 w5 (some ⟨g5, 0, none⟩) (n + 5) (ps ++ zs)) := Lib.hid (slk_own2 (by simp [hn.out, HZL.out]) hown5); clear hown5)
        | (go_at_call 22; refine (get_two _ _ _ _ _ (by omega) S5.out (by intro y hy; rcases List.mem_append.1 hy with hy | hy; exact HPB.out y hy; exact hzb.out y hy) k n 0 HG.out).mono ?_; rintro e w6 ⟨rfl, rfl⟩)
        | (go_at_call 14; refine (lives_any _).mono ?_; rintro e w8 ⟨rfl, hb8⟩; replace hB5 := bel_step hB5 hb8))
      go_ret
      exact ⟨rfl, hB5⟩
end Go.Proofs.Ythikjjcoejdjiaa

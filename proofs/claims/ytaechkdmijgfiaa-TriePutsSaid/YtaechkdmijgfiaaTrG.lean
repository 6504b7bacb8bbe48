/- The way up from a node, as an iterator hands it out. No condition. -/
import Derived.Test.YtaechkdmijgfiaaTrF
namespace Go.Proofs.Ytaechkdmijgfiaa
open Go.RowKit Go.Shelf
attribute [local go_sem] Oper.semAt_some
set_option linter.unusedVariables false
open Tr
namespace Tr
/-- the nodes of a path's beginnings, longest first -/
def ups (L : LL) (p : List Int) : List Nat := (List.range p.length).map fun i => idx L (p.take (p.length - i))
theorem ups_len (L : LL) (p : List Int) : (ups L p).length = p.length := by simp [ups]
theorem ups_at {L : LL} {p : List Int} {i : Nat} (h : i < p.length) : (ups L p).getD i 0 = idx L (p.take (p.length - i)) := by
  unfold ups; rw [gD (by simpa using h)]; simp
theorem ups_nums {L : LL} (h : Inv L) {p : List Int} (hp : p ∈ L) : (ups L p).map (num L) = p.reverse := by
  apply List.ext_getElem
  · rw [List.length_map, ups_len, List.length_reverse]
  · intro i h1 h2
    rw [List.length_map, ups_len] at h1
    rw [List.getElem_map, List.getElem_reverse]
    have e : (ups L p)[i]'(by rw [ups_len]; exact h1) = (ups L p).getD i 0 := (gD (by rw [ups_len]; exact h1)).symm
    rw [e, ups_at h1]
    unfold num
    rw [idx_at (h.take hp _)]
    rw [List.getLastD_eq_getLast?, List.getLast?_eq_getElem?, List.length_take, List.getElem?_take_of_lt (by omega), List.getElem?_eq_getElem (by omega), Option.getD_some]
    congr 1
    omega
theorem dep_at {L : LL} (h : Inv L) {p : List Int} (hp : p ∈ L) {d : Nat} (hd : d ≤ p.length) : depV L (idx L (p.take d) : Nat) = (d : Int) := by
  have h1 := idx_lt_iff.2 (h.take hp d)
  unfold depV
  rw [if_neg (by unfold out; omega), Int.toNat_natCast, idx_at (h.take hp d), List.length_take]
  omega
theorem par_of {L : LL} (h : Inv L) {p : List Int} (hp : p ∈ L) {d : Nat} (hd : d + 1 ≤ p.length) : parV L (idx L (p.take (d + 1)) : Nat) = (idx L (p.take d) : Nat) := by
  have h1 := idx_lt_iff.2 (h.take hp (d + 1))
  have h2 := idx_at (h.take hp (d + 1))
  have h0 : 1 ≤ idx L (p.take (d + 1)) := by
    rcases Nat.eq_zero_or_pos (idx L (p.take (d + 1))) with e | e
    · rw [e, h.root] at h2
      have := congrArg List.length h2
      rw [List.length_take] at this; simp at this; omega
    · exact e
  rw [par_at h0 h1, h2, take_drop1 (by omega), findV_mem (h.take hp d)]
end Tr
set_option maxRecDepth 100000 in
set_option maxHeartbeats 2000000 in
theorem upward_gives {W0 : World} {B tb nb nc x y : Nat} {rv : Nat → Value} {L Ws : LL} (h : TrP W0 B tb nb nc rv L Ws) (hI : Inv L) (k : Nat) (hk : k < L.length) (cx : W0.cell? ⟨x, 0, none⟩ = some (.pointer (some ⟨tb, 0, none⟩))) (cy : W0.cell? ⟨y, 0, none⟩ = some (.int .i64 (k : Int))) (m : Nat) (hm : 1 ≤ m) :
    GivesN Fence.wide m Try.prog 46 #[.pointer (some ⟨y, 0, none⟩), .pointer (some ⟨x, 0, none⟩)] (fun j : Nat => #[.int .i64 (j : Int)]) (Zq x y tb nb L.length rv W0) (Zy W0) (ups L (L.getD k [])) W0 := by
  intro l J Jx Wd hWs hW hJ hJx hY h00
  have hT : TrP Wd B tb nb nc rv L Ws := h.hold (x := x) (y := y) (fun g hg => .inr (.inr hg)) hW
  have cx1 := hW.cell (.inl rfl) cx
  have cy1 := hW.cell (.inr (.inl rfl)) cy
  have hkp : k = idx L (L.getD k []) := by
    have h1 := findV_self hI.nd hk
    rw [findV_mem (gD_mem hk)] at h1
    omega
  have hpm : L.getD k [] ∈ L := gD_mem hk
  obtain ⟨p, hp⟩ : ∃ p, L.getD k [] = p := ⟨_, rfl⟩
  rw [hp] at hkp hpm hY
  rw [hp]
  have hlen := ups_len L p
  have HL := Lib.hid hlen
  have HDp := Lib.hid (fun d (hd : d ≤ p.length) => dep_at hI hpm (d := d) hd)
  have HPr := Lib.hid (fun d (hd : d + 1 ≤ p.length) => par_of hI hpm (d := d) hd)
  have HUp := Lib.hid (fun i (hi : i < p.length) => ups_at (L := L) (p := p) hi)
  have hk' : idx L (p.take p.length) = k := by rw [List.take_of_length_le (Nat.le_refl _)]; exact hkp.symm
  obtain ⟨xs, hxs⟩ : ∃ xs, ups L p = xs := ⟨_, rfl⟩
  rw [hxs] at hY HL HUp
  rw [hxs]
  obtain ⟨n, hn⟩ : ∃ n, p.length = n := ⟨_, rfl⟩
  rw [hn] at HL HDp HPr HUp hk'
  obtain ⟨F, hF⟩ : ∃ F : Nat → Nat, (fun d => idx L (p.take d)) = F := ⟨_, rfl⟩
  have hF' : ∀ d, idx L (p.take d) = F d := fun d => congrFun hF d
  rw [hF'] at hk'
  replace HDp : Hid (∀ d, d ≤ n → depV L (F d : Nat) = (d : Int)) := Lib.hid fun d hd => by rw [← hF']; exact HDp.out d hd
  replace HPr : Hid (∀ d, d + 1 ≤ n → parV L (F (d + 1) : Nat) = (F d : Nat)) := Lib.hid fun d hd => by rw [← hF', ← hF']; exact HPr.out d hd
  replace HUp : Hid (∀ i, i < n → xs.getD i 0 = F (n - i)) := Lib.hid fun i hi => by rw [← hF']; exact HUp.out i hi
  have HK := Lib.hid hk'
  have HY := Lib.hid hY
  have HT := Lib.hid hT
  have hn9 : n ≤ 9223372036854775807 ∨ True := .inr trivial
  clear hY hxs hn h cx cy hW hT hF hF' hlen hkp hpm hp hk' hI
  refine callsIn_of_wp Try.func46 rfl trivial ?_ rfl
  simp only [Try.ntmps46, List.size_toArray, List.length_cons, List.length_nil, Nat.reduceAdd, Nat.reduceSub, Array.replicate_succ, Array.replicate_zero, List.push_toArray, List.append_toArray, List.nil_append, List.cons_append]
  gi_wp2
  gi_loopw [4] (fun s4 wr => ∃ q : Nat, q ≤ n ∧ s4 = .int .i64 (F (n - q) : Nat) ∧ J (xs.take q) wr ∧ TrP wr B tb nb nc rv L Ws ∧ wr.cell? ⟨x, 0, none⟩ = some (.pointer (some ⟨tb, 0, none⟩))) (fun s4 _ => (depV L (intOf s4)).toNat)
  case atStart => exact ⟨0, Nat.zero_le _, by rw [Nat.sub_zero, HK.out], by simpa using h00, HT.out, cx1⟩
  case round =>
    obtain ⟨q, hq, rfl, hj, hT, hcx⟩ := hrel
    have HJ := Lib.hid hj
    have HTr := Lib.hid hT
    have HDk := Lib.hid (depth_tr hT (F (n - q) : Nat))
    have hdq := HDp.out (n - q) (by omega)
    rw [hdq] at HDk
    have HDQ := Lib.hid hdq
    clear hj hT h00 cx1 cy1 HT hdq
    by_cases hlt : q < n
    · obtain ⟨d, hd⟩ : ∃ d, n - q = d + 1 := ⟨n - q - 1, by omega⟩
      have hd2 : n - (q + 1) = d := by omega
      have hpar := HPr.out d (by omega)
      have hpd := HDp.out d (by omega)
      have hux := HUp.out q hlt
      rw [hd] at HDk hux HDQ
      rw [hd]
      obtain ⟨j, hjx⟩ : ∃ j, F (d + 1) = j := ⟨_, rfl⟩
      obtain ⟨j', hjx'⟩ : ∃ j', F d = j' := ⟨_, rfl⟩
      rw [hjx] at HDk hux hpar HDQ
      rw [hjx', ] at hpar hpd
      rw [hjx]
      have hsp : xs = xs.take q ++ j :: xs.drop (q + 1) := by
        conv => lhs; rw [← List.take_append_drop q xs, List.drop_eq_getElem_cons (by rw [HL.out]; exact hlt)]
        rw [← hux, gD (by rw [HL.out]; exact hlt)]
      have hnx : xs.take q ++ [j] = xs.take (q + 1) := by
        rw [List.take_succ_eq_append_getElem (by rw [HL.out]; exact hlt), ← hux, gD (by rw [HL.out]; exact hlt)]
      have HSp := Lib.hid hsp
      have HNx := Lib.hid hnx
      have HPar := Lib.hid hpar
      have HPd := Lib.hid hpd
      have HD2 := Lib.hid hd2
      have HJx' := Lib.hid hjx'
      have hd0 : (0 : Int) < ((d + 1 : Nat) : Int) := by omega
      have hdb : decide ((0 : Int) < ((d + 1 : Nat) : Int)) = true := decide_eq_true hd0
      obtain ⟨e1, he1⟩ : ∃ e1 : Int, ((d + 1 : Nat) : Int) = e1 := ⟨_, rfl⟩
      rw [he1] at HDk hd0 hdb HDQ
      have HE1 := Lib.hid he1
      clear hsp hnx hpar hpd hd2 hjx hjx' hux hd he1
      gi_wp2_with (refine ⟨trivial, ?_⟩; gi_at_call 13; refine (callsIn_wide.2 HDk.out).mono ?_; rintro e w3 ⟨rfl, hb⟩; have HB := Lib.hid hb; obtain ⟨fn, tmps, assign, body, hy, hR⟩ := HY.out (xs.take q) j (xs.drop (q + 1)) w3 HSp.out (hJ _ _ _ HJ.out (sep_belowT hb)); rw [HNx.out] at hR; have HT3 := Lib.hid (HTr.out.later hb); have hcx3 := cell_later hb hcx; clear hb)
      refine hR.mono ?_
      rintro e W3 ⟨hh, (⟨rfl, hJ3⟩ | ⟨rfl, hJx3⟩)⟩
      · have hT4 : TrP W3 B tb nb nc rv L Ws := TrP.hold (x := x) (y := y) HT3.out (fun g hg => .inr (.inr hg)) hh
        have hcx4 := hh.cell (.inl rfl) hcx3
        have HPC := Lib.hid (parent_tr hT4 (j : Int))
        rw [HPar.out] at HPC
        have HT4 := Lib.hid hT4
        have HJ3 := Lib.hid hJ3
        clear hR hy hJ3 hh hT4 hcx hcx3
        gi_wp2_with (refine ⟨trivial, ?_⟩; gi_at_call 11; refine (callsIn_wide.2 HPC.out).mono ?_; rintro e w5 ⟨rfl, hb⟩; have HB5 := Lib.hid hb; clear hb)
        go_roundw
        case rel => exact ⟨q + 1, by omega, by rw [HD2.out, HJx'.out], hJ _ _ _ HJ3.out (sep_belowT HB5.out), HT4.out.later HB5.out, cell_later HB5.out hcx4⟩
        case measure =>
          have h1 := HDQ.out
          have h2 := HPd.out
          have h3 := HE1.out
          simp only [intOf]
          rw [h1, h2]; omega
      · gi_wp2
        refine bodyPost_ret (results_none rfl _ _ _) rfl ?_
        exact ⟨⟨_, rfl⟩, .inr ⟨xs.take (q + 1), List.take_prefix _ _, hJx3⟩⟩
    · obtain rfl : q = n := by omega
      have hjf := HJ.out
      rw [List.take_of_length_le (by rw [HL.out]; exact Nat.le_refl _)] at hjf
      rw [Nat.sub_self] at HDk ⊢
      have HJF := Lib.hid hjf
      clear hjf
      gi_wp2_with (refine ⟨trivial, ?_⟩; gi_at_call 13; refine (callsIn_wide.2 HDk.out).mono ?_; rintro e w3 ⟨rfl, hb⟩; have HB := Lib.hid hb; clear hb)
      go_end0
      exact ⟨⟨_, rfl⟩, .inl (hJ _ _ _ HJF.out (sep_belowT HB.out))⟩
theorem upward_none {W0 : World} {B tb nb nc x y : Nat} {rv : Nat → Value} {L Ws : LL} (h : TrP W0 B tb nb nc rv L Ws) (k : Int) (hk : out L k) (cx : W0.cell? ⟨x, 0, none⟩ = some (.pointer (some ⟨tb, 0, none⟩))) (cy : W0.cell? ⟨y, 0, none⟩ = some (.int .i64 k)) (m : Nat) (hm : 1 ≤ m) :
    GivesN Fence.wide m Try.prog 46 #[.pointer (some ⟨y, 0, none⟩), .pointer (some ⟨x, 0, none⟩)] (fun j : Nat => #[.int .i64 (j : Int)]) (Zq x y tb nb L.length rv W0) (Zy W0) [] W0 := by
  intro l J Jx Wd hWs hW hJ hJx hY h00
  have hT : TrP Wd B tb nb nc rv L Ws := h.hold (x := x) (y := y) (fun g hg => .inr (.inr hg)) hW
  have cx1 := hW.cell (.inl rfl) cx
  have cy1 := hW.cell (.inr (.inl rfl)) cy
  have hd : depV L k = -1 := by unfold depV; rw [if_pos hk]
  have HD := Lib.hid (fun W (hT : TrP W B tb nb nc rv L Ws) => depth_tr hT k)
  rw [hd] at HD
  have HT := Lib.hid hT
  have HJ0 := Lib.hid h00
  have HJs := Lib.hid hJ
  clear hY h cx cy hW hT hk h00 hJ hJx hd
  refine callsIn_of_wp Try.func46 rfl trivial ?_ rfl
  simp only [Try.ntmps46, List.size_toArray, List.length_cons, List.length_nil, Nat.reduceAdd, Nat.reduceSub, Array.replicate_succ, Array.replicate_zero, List.push_toArray, List.append_toArray, List.nil_append, List.cons_append]
  gi_wp2
  gi_loopw [4] (fun i wr => i = .int .i64 k ∧ J [] wr ∧ TrP wr B tb nb nc rv L Ws ∧ wr.cell? ⟨x, 0, none⟩ = some (.pointer (some ⟨tb, 0, none⟩))) (fun i _ => 0)
  case atStart => exact ⟨rfl, HJ0.out, HT.out, cx1⟩
  case round =>
    obtain ⟨rfl, hj, hT, hcx⟩ := hrel
    have HDk := Lib.hid (HD.out _ hT)
    have HJ := Lib.hid hj
    clear hj hT
    gi_wp2_with (refine ⟨trivial, ?_⟩; gi_at_call 13; refine (callsIn_wide.2 HDk.out).mono ?_; rintro e w3 ⟨rfl, hb⟩; have HB := Lib.hid hb; clear hb)
    go_end0
    exact ⟨⟨_, rfl⟩, .inl (HJs.out _ _ _ HJ.out (sep_belowT HB.out))⟩
end Go.Proofs.Ytaechkdmijgfiaa

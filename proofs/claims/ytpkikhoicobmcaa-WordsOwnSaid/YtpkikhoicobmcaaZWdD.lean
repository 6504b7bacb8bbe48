/- A set with a row more: an empty row, a new one. Condition: the set is of few rows, the row short. -/
import Derived.Test.YtpkikhoicobmcaaZWdC
namespace Go.Proofs.Ytpkikhoicobmcaa
open Go.RowKit
set_option linter.unusedVariables false
open Tr Au Wd
section
variable {w : World} {B sb tb nb nc mb : Nat} {rv : Nat → Value} {av : Value} {S : LL}
set_option maxHeartbeats 1000000 in
theorem wAdd_nil (h : WsX w B sb tb nb nc mb rv av S) (hS : Ok S) (hl : S.length ≤ 100) {a : Option Addr} {c : Nat} :
    Calls Try.prog 23 #[.pointer (some ⟨sb, 0, none⟩), .slice a 0 c] w (AddR w B sb tb nb mb rv av S []) := by
  obtain ⟨c0, _, _, _⟩ := h.cells
  have hI := paths_iw hS
  have hp := hI.inv.nil
  have hs : SlK .u64 w a 0 [] := ⟨rfl, .inl rfl⟩
  have HW := Lib.hid (walk_tr (c := c) h.tree hI.inv hs (by omega))
  rw [walk_full hI.inv hp, (known_full hI.inv).2 hp] at HW
  have HN := Lib.hid (fun W (hb : Below w.heap.size w W) => wNumber_any (h.later hb) hS (by omega) (findV (pathsOf S) []))
  rw [numV_find hS hp, findV_not hS.ne] at HN
  have HP := Lib.hid (fun W (hb : Below w.heap.size w W) => put_nil (h.tree.later hb) hI.inv a c)
  unfold AddR
  rw [show addS S [] = S from rfl, if_pos rfl, if_pos rfl]
  obtain ⟨z, hz⟩ : ∃ z, findV (pathsOf S) [] = z := ⟨_, rfl⟩
  rw [hz] at HN HW
  rw [List.length_nil] at HW
  have HX := Lib.hid h
  clear h hs hI hp hz
  go_enter Try.func23, Try.ntmps23
  go_wp2_with (go_at_call 39; refine HW.out.mono ?_; rintro e w1 ⟨rfl, hb⟩; have HB1 := Lib.hid hb; clear hb)
  refine (HN.out _ HB1.out).mono ?_
  rintro e w2 ⟨rfl, hb⟩
  have HB2 := Lib.hid (bel_step HB1.out hb)
  have c02 := cell_later HB2.out c0
  clear hb c0
  go_wp2_with (go_at_call 40; refine (HP.out _ HB2.out).mono ?_; rintro e w3 ⟨rfl, hb⟩; have HB3 := Lib.hid (bel_step HB2.out hb); clear hb)
  go_ret2
  exact ⟨rfl, nb, nc, rv, av, id, HX.out.later HB3.out, ⟨sep_of HB3.out, fun g hg => .inl hg⟩⟩
/-- all that has turned when a row is in -/
theorem add_done {S : LL} (hS : Ok S) {l : List Int} (h0 : l ≠ []) (hin : l ∉ S) {w w3 w5 : World} {nb' nc' : Nat} {rv' : Nat → Value} {n : Nat} (hn : S.length = n) (h : WsX w B sb tb nb nc mb rv av S) (hT : TrP w3 B tb nb' nc' rv' (pathsOf (S ++ [l])) (S ++ [l])) (hTu : Turn w (Fp tb nb (pathsOf S).length rv) w3 (Fp tb nb' (pathsOf (S ++ [l])).length rv'))
    {D : DataW Unit} (hD : ∀ x : Int, Maps.has D (.int .i64 x) = hasW S x) (ho : w5.ownsMap Try.prog 3 (unitElem (H := Unit)) mb (n + 1) (D.put (.int .i64 l.length) (.agg []))) (hDm : Go.Maps.IsMap D) (hm5 : World.mapTurned (w3.setCell ⟨sb, 1, none⟩ (.int .i64 ((n : Int) + 1))) w5 mb) :
    WsX (w5.setCell ⟨sb, 3, none⟩ (.pointer none)) B sb tb nb' nc' mb rv' (.pointer none) (S ++ [l]) ∧ Turn w (Fw sb tb nb mb (pathsOf S).length rv) (w5.setCell ⟨sb, 3, none⟩ (.pointer none)) (Fw sb tb nb' mb (pathsOf (S ++ [l])).length rv') := by
  have hsb := h.sb_fp
  have hmb := h.mb_fp
  have hsm := h.sb_mb
  have hlt := (h.lt (.inr (.inl rfl))).2
  have hlm := (h.lt (.inr (.inr rfl))).2
  have hbox3 := (hTu.sep.block sb hlt hsb).trans h.box
  have hbox4 := set_same 1 (.int .i64 ((n : Int) + 1)) hbox3
  obtain ⟨w4, hw4⟩ : ∃ w4, w3.setCell ⟨sb, 1, none⟩ (.int .i64 ((n : Int) + 1)) = w4 := ⟨_, rfl⟩
  have hs34 : ∀ g, g ≠ sb → w4.heap[g]? = w3.heap[g]? := fun g hg => by rw [← hw4]; exact Below.heap_setCell w3 _ _ g (fun e => hg e)
  have hz34 : w4.heap.size = w3.heap.size := by rw [← hw4]; simp
  rw [hw4] at hm5 hbox4
  have hg5 := hm5.grown
  have hbox5 : w5.heap[sb]? = _ := (hg5.block sb (Array.getElem?_eq_some_iff.1 hbox4).1 (fun e => hsm (by injection e))).trans hbox4
  have hbox6 := set_same 3 (.pointer none) hbox5
  have hkeep : ∀ g, g < w3.heap.size → g ≠ sb → g ≠ mb → (w5.setCell ⟨sb, 3, none⟩ (.pointer none)).heap[g]? = w3.heap[g]? := fun g h1 h2 h3 => by
    rw [Below.heap_setCell w5 _ _ g (fun e => h2 e), hg5.block g (by rw [hz34]; exact h1) (fun e => h3 (by injection e)), hs34 g h2]
  have hadd : (S ++ [l]).length = n + 1 := by simp [hn]
  have hz3 := hTu.sep.size
  have hsb' : ¬ Fp tb nb' (pathsOf (S ++ [l])).length rv' sb := fun e => by
    rcases hTu.foot sb e with e | e
    · exact hsb e
    · omega
  have hmb' : ¬ Fp tb nb' (pathsOf (S ++ [l])).length rv' mb := fun e => by
    rcases hTu.foot mb e with e | e
    · exact hmb e
    · omega
  refine ⟨⟨h.low, h.lom, ?_, TrX.of_blocks hT fun g hg => hkeep g (TrX.lt hT hg).2 (fun e => hsb' (e ▸ hg)) (fun e => hmb' (e ▸ hg)), ?_⟩, ⟨⟨?_, ?_, ?_, ?_, fun k hk hz => ?_⟩, fun g hg => ?_⟩⟩
  · rw [hadd]; simpa using hbox6
  · refine MapW.of_block (w := w5) ⟨D.put (.int .i64 l.length) (.agg []), by rw [hadd]; exact ho, fun x => ?_⟩ (Below.heap_setCell w5 _ _ mb (fun e => hsm e.symm))
    rw [hasW_add]
    by_cases hx : (l.length : Int) = x
    · rw [← hx, Go.Maps.has_put_same hDm (show Go.WideAt.IsKeyLit (Lit.int .i64 (l.length : Int)) from trivial), decide_eq_true rfl, Bool.or_true]
    · rw [Go.Maps.has_put_other (fun e => hx (by injection e with _ e; exact e.symm)), hD, decide_eq_false hx, Bool.or_false]
  · exact (by have := hg5.os; have h4 : w4.os = w3.os := by rw [← hw4]; rfl
              exact (this.trans h4).trans hTu.sep.os)
  · exact (by have := hg5.tape; have h4 : w4.tape = w3.tape := by rw [← hw4]; rfl
              exact (this.trans h4).trans hTu.sep.tape)
  · exact (by have := hg5.output; have h4 : w4.output = w3.output := by rw [← hw4]; rfl
              exact (this.trans h4).trans hTu.sep.output)
  · have h1 := hg5.size
    rw [hz34] at h1
    have h2 : (w5.setCell ⟨sb, 3, none⟩ (.pointer none)).heap.size = w5.heap.size := by simp
    omega
  · have hz1 : ¬ Fp tb nb (pathsOf S).length rv k := fun e => hz (.inl e)
    rw [hkeep k (by omega) (fun e => hz (.inr (.inl e))) (fun e => hz (.inr (.inr e)))]
    exact hTu.sep.block k hk hz1
  · rcases hg with hg | hg | hg
    · rcases hTu.foot g hg with e | e
      · exact .inl (.inl e)
      · exact .inr e
    · exact .inl (.inr (.inl hg))
    · exact .inl (.inr (.inr hg))
theorem zero_unit (w : World) : (zeroValue 66).run Try.prog w = .ok (.agg #[]) w := by kernel_rfl
set_option maxRecDepth 100000 in
set_option maxHeartbeats 2000000 in
theorem wAdd_new (h : WsX w B sb tb nb nc mb rv av S) (hS : Ok S) (hl : S.length ≤ 100) (hd : ∀ r ∈ S, r.length ≤ 5) {b o m c : Nat} {l : List Int} (hs : ∀ w', Sep (Fw sb tb nb mb (pathsOf S).length rv) w w' → SlK .u64 w' (some ⟨b, o, none⟩) m l) (hm1 : 1 ≤ m) (hm : m ≤ 100) (hmc : m ≤ c) (hc9 : c ≤ 9223372036854775807) (hin : l ∉ S) :
    Calls Try.prog 23 #[.pointer (some ⟨sb, 0, none⟩), .slice (some ⟨b, o, none⟩) m c] w (AddR w B sb tb nb mb rv av S l) := by
  obtain ⟨c0, _, _, _⟩ := h.cells
  have hlm : l.length = m := (hs w (Sep.refl _ _)).1
  have h0 : l ≠ [] := fun e => by rw [e] at hlm; simp at hlm; omega
  have hI := paths_iw hS
  have HW := Lib.hid (walk_tr (c := c) h.tree hI.inv (hs w (Sep.refl _ _)) (by omega))
  have hadd : addS S l = S ++ [l] := by unfold addS; rw [if_neg h0, if_neg hin]
  have hfn : findV (S ++ [l]) l = (S.length : Int) := findV_new hin
  obtain ⟨D, hown, hD⟩ := h.map
  have hDm := hown.isMap
  have hkey : keyOf Try.prog 3 (.int .i64 (m : Int)) = some (.int .i64 (m : Int)) := Go.Maps.keyOf_int_mk Try.underlying3 (by simp [Lit.wf, IntKind.min, IntKind.max, IntKind.bits, IntKind.signed]; omega)
  have HX := Lib.hid h
  have HI := Lib.hid hI
  have HS := Lib.hid hs
  have HSX := Lib.hid hS
  have HPD := Lib.hid (paths_dep hd)
  have hpl := paths_len hd
  have HPA := Lib.hid (paths_add hS h0)
  have HLT := Lib.hid (h.lt (.inr (.inl rfl))).2
  have HSB := Lib.hid h.sb_fp
  have HMB := Lib.hid h.mb_fp
  have HSM := Lib.hid h.sb_mb
  have HMLT := Lib.hid h.map.lt
  have HOWN := Lib.hid hown
  have HD := Lib.hid hD
  have HDM := Lib.hid hDm
  have HKEY := Lib.hid hkey
  have HLM := Lib.hid hlm
  have HH0 := Lib.hid h0
  have HIN := Lib.hid hin
  unfold AddR
  rw [hadd, if_neg h0, if_neg h0, hfn]
  obtain ⟨n, hn⟩ : ∃ n, S.length = n := ⟨_, rfl⟩
  have HSN := Lib.hid hn
  rw [hn] at hl hpl HOWN ⊢
  have hn1 : (0 : Int) ≤ (n : Int) := Int.natCast_nonneg _
  have hn2 : (n : Int) + 1 ≤ 9223372036854775807 := by omega
  have hPL : (pathsOf S).length ≤ 900 := by omega
  have HPL := Lib.hid hPL
  have hmI : (1 : Int) ≤ (m : Int) := by omega
  by_cases hL : l ∈ pathsOf S
  · have hNV : numV S (findV (pathsOf S) l) = -1 := by rw [numV_find hS hL, findV_not hin]
    have HN := Lib.hid (fun W (hb : Below w.heap.size w W) => wNumber_any (h.later hb) hS (by omega) (findV (pathsOf S) l))
    rw [hNV] at HN
    rw [walk_full hI.inv hL, (known_full hI.inv).2 hL, hlm] at HW
    obtain ⟨z, hz⟩ : ∃ z, findV (pathsOf S) l = z := ⟨_, rfl⟩
    rw [hz] at HN HW
    clear h hs hlm hI h0 hadd hz hin hL hNV hn hfn hown hD hDm hkey hPL hpl hd
    go_enter Try.func23, Try.ntmps23
    go_wp2_with (go_at_call 39; refine HW.out.mono ?_; rintro e w1 ⟨rfl, hb⟩; have HB1 := Lib.hid hb; clear hb)
    refine (HN.out _ HB1.out).mono ?_
    rintro e w2 ⟨rfl, hb⟩
    have HB2 := Lib.hid (bel_step HB1.out hb)
    have c02 := cell_later HB2.out c0
    clear hb c0
    have HPu := Lib.hid (put_tr (w := w2) (c := c) (HX.out.later HB2.out).tree HI.out (fun w' hs' => HS.out w' ((sep_of HB2.out).trans (hs'.mono fun g hg => .inl hg))) hm1 hm hmc hc9 HPL.out (fun x hx => Nat.le_trans (HPD.out x hx) (by omega)) (by rw [HSN.out]; omega))
    rw [HSN.out] at HPu
    go_upto_region 8 with (go_at_call 40; refine HPu.out.mono ?_; rintro e w3 ⟨rfl, nb', nc', rv', hT, hTu⟩; rw [← HPA.out] at hT hTu; have hTu := hTu; have hbx := (hTu.sep.block sb (Nat.lt_of_lt_of_le HLT.out HB2.out.size) HSB.out).trans (HX.out.later HB2.out).box; rw [HSN.out] at hbx; have p1 : w3.cell? ⟨sb, 1, none⟩ = some (.int .i64 (n : Int)) := (by simp [World.cell?, hbx]); have p2 : w3.cell? ⟨sb, 2, none⟩ = some (.map (some mb)) := (by simp [World.cell?, hbx]); have pf1 : w3.frozen? ⟨sb, 1, none⟩ = false := (by simp [World.frozen?, hbx]); have HT := Lib.hid hT; have HTu := Lib.hid (show Turn w (Fp tb nb (pathsOf S).length rv) w3 (Fp tb nb' (pathsOf (S ++ [l])).length rv') from (Turn.below HB2.out).trans hTu); have HBX := Lib.hid hbx; clear hT hTu hbx)
    have hom : (w3.setCell ⟨sb, 1, none⟩ (.int .i64 ((n : Int) + 1))).ownsMap Try.prog 3 (unitElem (H := Unit)) mb n D := by
      obtain ⟨es, clock, h1, r⟩ := HOWN.out
      exact ⟨es, clock, (Below.heap_setCell w3 _ _ mb (fun e => HSM.out e.symm)).trans ((HTu.out.sep.block mb HMLT.out HMB.out).trans h1), r⟩
    have q2 : (w3.setCell ⟨sb, 1, none⟩ (.int .i64 ((n : Int) + 1))).cell? ⟨sb, 2, none⟩ = some (.map (some mb)) := by
      have h4 := set_same 1 (.int .i64 ((n : Int) + 1)) HBX.out
      simp [World.cell?, h4]
    obtain ⟨w4, hw4⟩ : ∃ w4, w3.setCell ⟨sb, 1, none⟩ (.int .i64 ((n : Int) + 1)) = w4 := ⟨_, rfl⟩
    have HW4 := Lib.hid hw4
    rw [hw4] at hom q2
    try rw [hw4]
    have HOM := Lib.hid hom
    clear hw4 hom p1 p2 pf1 c02
    go_upto_region 9 with (at_mapUpdate; refine wpList_mapUpdate_in _ rfl _ _ _ 59 rfl 3 66 kint Try.underlying59 (unitElem (H := Unit)) mb n D rfl HOM.out (by unfold maxLen; omega) _ _ _ rfl rfl HKEY.out (.agg []) [] unitElem_mk ?_; intro w5 ho5 hm5; have HO5 := Lib.hid ho5; have HM5 := Lib.hid hm5; clear ho5 hm5)
    have hb5 : w5.heap[sb]? = some (.cells #[.pointer (some ⟨tb, 0, none⟩), .int .i64 ((n : Int) + 1), .map (some mb), av] 62 (0, 0)) := by
      have h4 := set_same 1 (.int .i64 ((n : Int) + 1)) HBX.out
      rw [HW4.out] at h4
      exact (HM5.out.grown.block sb (Array.getElem?_eq_some_iff.1 h4).1 (fun e => HSM.out (by injection e))).trans (by simpa using h4)
    have r3 : w5.cell? ⟨sb, 3, none⟩ = some av := by simp [World.cell?, hb5]
    have rf3 : w5.frozen? ⟨sb, 3, none⟩ = false := by simp [World.frozen?, hb5]
    clear hb5 q2
    go_wp2_with fail
    go_ret2
    have hfin := add_done HSX.out HH0.out HIN.out HSN.out HX.out HT.out HTu.out HD.out (by rw [HLM.out]; exact HO5.out) HDM.out (by rw [HW4.out]; exact HM5.out)
    exact ⟨rfl, nb', nc', rv', .pointer none, fun _ => rfl, hfin.1, hfin.2⟩
  · have hkm : known (pathsOf S) l ≠ m := fun e => hL ((known_full hI.inv).1 (by rw [e, hlm]))
    have hkl := known_le (pathsOf S) l
    rw [hlm] at hkl
    obtain ⟨z, hz⟩ : ∃ z, walkN (pathsOf S) l = z := ⟨_, rfl⟩
    obtain ⟨k, hk⟩ : ∃ k, known (pathsOf S) l = k := ⟨_, rfl⟩
    rw [hz, hk] at HW
    rw [hk] at hkm hkl
    have hkb : ((k : Int) == (m : Int)) = false := by rw [beq_eq_false_iff_ne]; omega
    have hki : ¬ (k : Int) = (m : Int) := by omega
    clear h hs hlm hI h0 hadd hz hin hL hk hn hfn hown hD hDm hkey hPL hpl hd hS
    go_enter Try.func23, Try.ntmps23
    go_upto_region 4 with (go_at_call 39; refine HW.out.mono ?_; rintro e w2 ⟨rfl, hb⟩; have HB2 := Lib.hid hb; clear hb)
    have c02 := cell_later HB2.out c0
    clear c0 hkb hki hkm
    have HPu := Lib.hid (put_tr (w := w2) (c := c) (HX.out.later HB2.out).tree HI.out (fun w' hs' => HS.out w' ((sep_of HB2.out).trans (hs'.mono fun g hg => .inl hg))) hm1 hm hmc hc9 HPL.out (fun x hx => Nat.le_trans (HPD.out x hx) (by omega)) (by rw [HSN.out]; omega))
    rw [HSN.out] at HPu
    go_upto_region 8 with (go_at_call 40; refine HPu.out.mono ?_; rintro e w3 ⟨rfl, nb', nc', rv', hT, hTu⟩; rw [← HPA.out] at hT hTu; have hTu := hTu; have hbx := (hTu.sep.block sb (Nat.lt_of_lt_of_le HLT.out HB2.out.size) HSB.out).trans (HX.out.later HB2.out).box; rw [HSN.out] at hbx; have p1 : w3.cell? ⟨sb, 1, none⟩ = some (.int .i64 (n : Int)) := (by simp [World.cell?, hbx]); have p2 : w3.cell? ⟨sb, 2, none⟩ = some (.map (some mb)) := (by simp [World.cell?, hbx]); have pf1 : w3.frozen? ⟨sb, 1, none⟩ = false := (by simp [World.frozen?, hbx]); have HT := Lib.hid hT; have HTu := Lib.hid (show Turn w (Fp tb nb (pathsOf S).length rv) w3 (Fp tb nb' (pathsOf (S ++ [l])).length rv') from (Turn.below HB2.out).trans hTu); have HBX := Lib.hid hbx; clear hT hTu hbx)
    have hom : (w3.setCell ⟨sb, 1, none⟩ (.int .i64 ((n : Int) + 1))).ownsMap Try.prog 3 (unitElem (H := Unit)) mb n D := by
      obtain ⟨es, clock, h1, r⟩ := HOWN.out
      exact ⟨es, clock, (Below.heap_setCell w3 _ _ mb (fun e => HSM.out e.symm)).trans ((HTu.out.sep.block mb HMLT.out HMB.out).trans h1), r⟩
    have q2 : (w3.setCell ⟨sb, 1, none⟩ (.int .i64 ((n : Int) + 1))).cell? ⟨sb, 2, none⟩ = some (.map (some mb)) := by
      have h4 := set_same 1 (.int .i64 ((n : Int) + 1)) HBX.out
      simp [World.cell?, h4]
    obtain ⟨w4, hw4⟩ : ∃ w4, w3.setCell ⟨sb, 1, none⟩ (.int .i64 ((n : Int) + 1)) = w4 := ⟨_, rfl⟩
    have HW4 := Lib.hid hw4
    rw [hw4] at hom q2
    try rw [hw4]
    have HOM := Lib.hid hom
    clear hw4 hom p1 p2 pf1 c02
    go_upto_region 9 with (at_mapUpdate; refine wpList_mapUpdate_in _ rfl _ _ _ 59 rfl 3 66 kint Try.underlying59 (unitElem (H := Unit)) mb n D rfl HOM.out (by unfold maxLen; omega) _ _ _ rfl rfl HKEY.out (.agg []) [] unitElem_mk ?_; intro w5 ho5 hm5; have HO5 := Lib.hid ho5; have HM5 := Lib.hid hm5; clear ho5 hm5)
    have hb5 : w5.heap[sb]? = some (.cells #[.pointer (some ⟨tb, 0, none⟩), .int .i64 ((n : Int) + 1), .map (some mb), av] 62 (0, 0)) := by
      have h4 := set_same 1 (.int .i64 ((n : Int) + 1)) HBX.out
      rw [HW4.out] at h4
      exact (HM5.out.grown.block sb (Array.getElem?_eq_some_iff.1 h4).1 (fun e => HSM.out (by injection e))).trans (by simpa using h4)
    have r3 : w5.cell? ⟨sb, 3, none⟩ = some av := by simp [World.cell?, hb5]
    have rf3 : w5.frozen? ⟨sb, 3, none⟩ = false := by simp [World.frozen?, hb5]
    clear hb5 q2
    go_wp2_with fail
    go_ret2
    have hfin := add_done HSX.out HH0.out HIN.out HSN.out HX.out HT.out HTu.out HD.out (by rw [HLM.out]; exact HO5.out) HDM.out (by rw [HW4.out]; exact HM5.out)
    exact ⟨rfl, nb', nc', rv', .pointer none, fun _ => rfl, hfin.1, hfin.2⟩
end
end Go.Proofs.Ytpkikhoicobmcaa

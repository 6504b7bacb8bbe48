/- A dictionary is put together again; what stands behind a store into its box. No condition. -/
import Derived.Test.YtmlinoanpcbflaaZDcK
namespace Go.Proofs.Ytmlinoanpcbflaa
open Go.RowKit
set_option linter.unusedVariables false
open Dc
namespace Dc
theorem TplX.bound {w : World} {F : Nat → Prop} {v : Value} {l : List Te} (h : TplX w F v l) : TplX w (fun g => F g ∧ g < w.heap.size) v l :=
  ⟨h.row, fun g hg => ⟨h.here g hg, (h.row.lt g hg).2⟩, fun r hr => ⟨(h.img r hr).1, fun g hg => ⟨(h.img r hr).2 g hg, ((h.img r hr).1.lt g hg).2⟩⟩, fun r hr => ⟨(h.trn r hr).1, fun g hg => ⟨(h.trn r hr).2 g hg, ((h.trn r hr).1.lt g hg).2⟩⟩⟩
theorem dct_end {w W : World} {F : Nat → Prop} {sb mb : Nat} {ts : List Tp} {tv vv : Value} {tl : List Te} {vl : List Vr} (hs : Sep F w W) (hsb : F sb) (hbox : W.heap[sb]? = some (.cells #[tv, vv, .map (some mb)] 61 (0, 0)))
    (ht : TplX W (fun g => F g ∨ w.heap.size ≤ g) tv tl) (htk : tl.map Te.key = ts) (hv : VarX W (fun g => F g ∨ w.heap.size ≤ g) vv vl) (hvk : vl.map Vr.key = vars ts) (hmb : F mb) {D : DataW Unit} (hf : FmtD W mb (fmts ts) D) :
    ∃ F', DctP W F' sb ts ∧ Sep F w W ∧ ∀ g, F' g → F g ∨ w.heap.size ≤ g := by
  refine ⟨fun g => (F g ∨ w.heap.size ≤ g) ∧ g < W.heap.size, ⟨tv, vv, mb, tl, vl, fun g hg => hg.2, ⟨.inl hsb, (Array.getElem?_eq_some_iff.1 hbox).1⟩, hbox, ht.bound, htk, hv.bound, hvk, ⟨.inl hmb, hf.1.lt⟩, D, hf⟩, hs, fun g hg => hg.1⟩
/-- a store into the box -/
theorem box_keep {A : World} {sb i : Nat} {cs : Array Value} (hb : A.heap[sb]? = some (.cells cs 61 (0, 0))) (y : Value) {g : Nat} {o : Obj} (hg : A.heap[g]? = some o) (ho : ∀ c, o ≠ .cells c 61 (0, 0)) : (A.setCell ⟨sb, i, none⟩ y).heap[g]? = some o := by
  refine (Below.heap_setCell A _ y g fun e => ?_).trans hg
  have e' : g = sb := e
  subst e'
  rw [hb] at hg
  cases hg
  exact ho _ rfl
theorem VarX.box {A : World} {F : Nat → Prop} {v : Value} {l : List Vr} (h : VarX A F v l) {sb i : Nat} {cs : Array Value} (hb : A.heap[sb]? = some (.cells cs 61 (0, 0))) (y : Value) : VarX (A.setCell ⟨sb, i, none⟩ y) F v l :=
  h.keep fun g c t _ hg ht => (box_keep hb y hg (fun c' e => by cases e; rcases ht with e | e | e <;> exact absurd e (by decide))).trans hg.symm
theorem TplX.box {A : World} {F : Nat → Prop} {v : Value} {l : List Te} (h : TplX A F v l) {sb i : Nat} {cs : Array Value} (hb : A.heap[sb]? = some (.cells cs 61 (0, 0))) (y : Value) : TplX (A.setCell ⟨sb, i, none⟩ y) F v l :=
  h.keep fun g c t _ hg ht => (box_keep hb y hg (fun c' e => by cases e; rcases ht with e | e | e <;> exact absurd e (by decide))).trans hg.symm
theorem FmtD.heap {w : World} {mb : Nat} {fs : List (Int × Int)} {D : DataW Unit} (h : FmtD w mb fs D) : ∃ es clock, w.heap[mb]? = some (.map es clock) := by
  obtain ⟨⟨es, clock, hb, _⟩, _⟩ := h
  exact ⟨es, clock, hb⟩
theorem FmtD.box {A : World} {mb : Nat} {fs : List (Int × Int)} {D : DataW Unit} (h : FmtD A mb fs D) {sb i : Nat} {cs : Array Value} (hb : A.heap[sb]? = some (.cells cs 61 (0, 0))) (y : Value) : FmtD (A.setCell ⟨sb, i, none⟩ y) mb fs D := by
  obtain ⟨es, clock, hm⟩ := h.heap
  exact h.of_block ((box_keep hb y hm (fun c e => by cases e)).trans hm.symm)
theorem Ib.box {A : World} {b : Nat} {c m W H : Int} {v : Value} (h : Ib A b 36 c m W H v) {sb i : Nat} {cs : Array Value} (hb : A.heap[sb]? = some (.cells cs 61 (0, 0))) (y : Value) : Ib (A.setCell ⟨sb, i, none⟩ y) b 36 c m W H v :=
  box_keep hb y h (fun c e => by injection e with _ e _; exact absurd e (by decide))
/-- a row that grows turns nothing of another type -/
theorem grown_other {w w' : World} {B : Nat} {e : TypeId} {size : Nat} {v : Value} {n : Nat} {xs : List Value} (h : w.ownsRow B e size v n xs) (hg : w.grownBy w' v.ownBlock) {g : Nat} {o : Obj} (hgo : w.heap[g]? = some o) (ho : ∀ cs, o ≠ .cells cs e (0, 0)) : w'.heap[g]? = some o :=
  (hg.block g (Array.getElem?_eq_some_iff.1 hgo).1 fun e' => by
    obtain ⟨cur, hc⟩ := own_type h e'.symm
    rw [hgo] at hc
    cases hc
    exact ho _ rfl).trans hgo
theorem set3 {A : World} {sb : Nat} {u v x : Value} (hb : A.heap[sb]? = some (.cells #[u, v, x] 61 (0, 0))) (i : Nat) (y : Value) : (A.setCell ⟨sb, i, none⟩ y).heap[sb]? = some (.cells ((#[u, v, x] : Array Value).setIfInBounds i y) 61 (0, 0)) := by
  simpa using Go.heap_setCell_same A sb i _ _ y hb
theorem fmts_more (ts : List Tp) (p : Tp) : fmts (ts ++ [p]) = ins (fmts ts) (fmt p.1) := by
  unfold fmts; rw [List.map_append, List.map_singleton, insAll_more]
theorem bel_dr {A B : World} (h : Below A.drew.heap.size A.drew B) : Below A.heap.size A B := ⟨h.os, h.tape, h.output, h.size, h.block⟩
theorem tcs_one (r : Te) : ∀ u ∈ tcs r, u.oneCell' = true := by
  intro u hu
  unfold tcs at hu
  simp only [List.mem_cons, List.not_mem_nil, or_false] at hu
  rcases hu with rfl | rfl | rfl | rfl | rfl | rfl <;> rfl
end Dc
end Go.Proofs.Ytmlinoanpcbflaa

/- A variant's owners, by dict. No condition but few owners. -/
namespace Go.Proofs.Ytmlinoanpcbflaa
open Go.RowKit
set_option linter.unusedVariables false
open Dc
theorem isnot_ow (ad : Addr) (n c : Nat) (w : World) : (binOp .eql 38 (.slice (some ad) n c) (.slice none 0 0)).run Try.prog w = .ok (.bool false) w := by kernel_rfl
theorem isnil_ow (w : World) : (binOp .eql 38 (.slice none 0 0) (.slice none 0 0)).run Try.prog w = .ok (.bool true) w := by kernel_rfl
namespace Dc
theorem ocs_one (l : List Ow) : ∀ u ∈ l.flatMap ocs, u.oneCell' = true := by
  intro u hu
  obtain ⟨o, _, ho⟩ := List.mem_flatMap.1 hu
  unfold ocs at ho
  simp only [List.mem_cons, List.not_mem_nil, or_false] at ho
  rcases ho with rfl | rfl <;> rfl
end Dc
set_option maxRecDepth 100000 in
set_option maxHeartbeats 1000000 in
theorem cloneOw_any (g n c : Nat) (L : List Ow) (hn : 0 < n) (h9 : n ≤ 100000) (w : World) (hs : w.ownsRow 0 71 2 (.slice (some ⟨g, 0, none⟩) n c) n (L.flatMap ocs)) :
    Calls Try.prog 25 #[.slice (some ⟨g, 0, none⟩) n c] w fun e w' => ∃ g' cap, e = .returned (.slice (some ⟨g', 0, none⟩) n cap) ∧ w.heap.size ≤ g' ∧ w'.ownsRow w.heap.size 71 2 (.slice (some ⟨g', 0, none⟩) n cap) n (L.flatMap ocs) ∧ Below w.heap.size w w' := by
  obtain ⟨i0, hi, hz0, hz1, hz2⟩ := info_parts Try.info_ow
  have B0 := dc_box w (.cells #[] 71)
  have HL := Lib.hid hs.1
  have HNW : Hid (∀ (j : Nat) (u : Value), (L.flatMap ocs)[j]? = some u → (w.alloc (.cells #[] 71)).cell? ((⟨g, 0, none⟩ : Addr).add j) = some u) := Lib.hid fun j u hj => by
    have hjl := (List.getElem?_eq_some_iff.1 hj).1
    rw [hs.1] at hjl
    have e : (⟨g, 0, none⟩ : Addr).add j = ⟨g, j, none⟩ := by cases j <;> simp [Addr.add]
    rw [e]
    refine cell_later B0 ?_
    rw [hs.cellAt j (by omega), hj]
  have HR0 : Hid ((w.alloc (.cells #[] 71)).ownsRow w.heap.size 71 2 (.slice (some ⟨w.heap.size, 0, none⟩) 0 0) 0 []) := Lib.hid ⟨rfl, .inr ⟨_, 0, #[], rfl, Nat.le_refl _, World.alloc_heap_new w _, Nat.le_refl _, Nat.zero_le _, rfl, rfl⟩⟩
  have E := isnot_ow ⟨g, 0, none⟩ n c w
  clear hs
  go_enter Try.func25, Try.ntmps25
  go_wp2_with (at_builtin; refine wpList_append_lies _ rfl _ _ 38 rfl w.heap.size 71 i0 (.agg #[.int .i64 0, .int .i64 0]) 2 16 Try.underlying38 hi hz0 hz1 hz2 rfl (by decide) _ 0 _ rfl HR0.out ⟨g, 0, none⟩ n c (L.flatMap ocs) rfl HL.out HNW.out (ocs_one L) hn (by unfold maxLen; omega) (by omega) (by simp) _ rfl ?_; intro gg cc w5 hown hgrow hat _; have HOWN := Lib.hid hown; have HG := Lib.hid hgrow; have HA := Lib.hid hat; clear hown hgrow hat)
  go_ret
  have h1 := HOWN.out
  have h2 := HG.out
  rw [List.nil_append, Nat.zero_add] at h1
  refine ⟨gg, cc, by simp, (h1.lt gg rfl).1, h1, B0.grown h2 (by simp) fun j e => ?_⟩
  cases e; exact Nat.le_refl _
namespace Dc
def ownV (ts : List Tp) (v : Int) : List Ow := match (imgs ts)[v.toNat]? with | some x => if 0 ≤ v then own ts x else [] | none => []
theorem ownV_no {ts : List Tp} {v : Int} (h : hasV ts v = false) : ownV ts v = [] := by
  unfold ownV
  unfold hasV at h
  rw [Bool.and_eq_false_iff] at h
  cases hx : (imgs ts)[v.toNat]? with
  | none => rfl
  | some x =>
    have := (List.getElem?_eq_some_iff.1 hx).1
    dsimp only
    refine if_neg fun h0 => ?_
    rcases h with h | h
    · exact of_decide_eq_false h h0
    · exact of_decide_eq_false h (by omega)
theorem own_pos {ts : List Tp} {x : Im} (h : x ∈ imgs ts) : 0 < (own ts x).length := by
  obtain ⟨o, ho⟩ := mem_imgs.1 h
  unfold own
  rw [List.length_map]
  exact List.length_pos_of_mem (List.mem_filter.2 ⟨ho, by simp⟩)
end Dc
def Dc.OwnR (ts : List Tp) (v : Int) (w : World) (e : Ending) (w' : World) : Prop := ∃ a c, e = .returned (.slice a (ownV ts v).length c) ∧ w'.ownsRow w.heap.size 71 2 (.slice a (ownV ts v).length c) (ownV ts v).length ((ownV ts v).flatMap ocs) ∧ Below w.heap.size w w'
theorem dOwners_any {w : World} {F : Nat → Prop} {sb : Nat} {ts : List Tp} (h : DctP w F sb ts) (hd : OkD ts) (v : Int) :
    Calls Try.prog 10 #[.pointer (some ⟨sb, 0, none⟩), .int .i64 v] w (OwnR ts v w) := by
  have HHAS := Lib.hid (dHas_any h v)
  obtain ⟨tv, vv, mb, tl, vl, hX⟩ := h
  obtain ⟨c0, c1, c2⟩ := hX.cells
  cases hh : hasV ts v with
  | false =>
    rw [hh] at HHAS
    have he := Lib.hid (ownV_no hh)
    clear hX hh c0 c1 c2
    go_enter Try.func10, Try.ntmps10
    go_wp2_with (go_at_call 24; refine HHAS.out.mono ?_; rintro e w1 ⟨rfl, rfl⟩)
    go_ret
    refine ⟨none, 0, ?_, ?_, Below.refl _ _⟩
    · rw [he.out]; rfl
    · rw [he.out]; exact World.ownsRow_nil _ _ _ _
  | true =>
    rw [hh] at HHAS
    unfold hasV at hh
    rw [Bool.and_eq_true] at hh
    have h0 := of_decide_eq_true hh.1
    have h1 := of_decide_eq_true hh.2
    obtain ⟨k, rfl⟩ : ∃ k : Nat, v = k := ⟨v.toNat, by omega⟩
    have hkl : k < (imgs ts).length := by omega
    obtain ⟨y, hy⟩ : ∃ y, (imgs ts)[k]? = some y := ⟨_, List.getElem?_eq_getElem hkl⟩
    have hS : Said ts (imgs ts) vl := hX.vkey
    have hkv : k < vl.length := by rw [hS.len]; exact hkl
    obtain ⟨r, hr⟩ : ∃ r, vl[k]? = some r := ⟨_, List.getElem?_eq_getElem hkv⟩
    have hrk : Vr.key r = (y, own ts y) := by
      have h2 := congrArg (fun l : List Va => l[k]?) hS
      rw [List.getElem?_map, List.getElem?_map, hr, hy] at h2
      injection h2
    have ho2 : r.2.2.2 = own ts y := congrArg Prod.snd hrk
    have hov : ownV ts (k : Int) = own ts y := by unfold ownV; rw [Int.toNat_natCast, hy]; exact if_pos h0
    have hpos := own_pos (List.mem_of_getElem? hy)
    have hle : (own ts y).length ≤ 100000 := by
      have h2 := own_len ts y
      have h3 := pairs_len hd.turns
      have h4 := hd.few
      omega
    obtain ⟨gv, cv, ev, hc5⟩ := hX.var.lies.cell (j := 5) hr rfl
    have hrow := (hX.var.own r (List.mem_of_getElem? hr)).1
    unfold Vr.ov at hrow
    rw [ho2] at hrow hc5
    obtain ⟨go, co, eo⟩ := ownsRow_pos hrow hpos
    injection eo with eo1 eo2 eo3
    rw [eo1] at hc5 hrow
    have HC := Lib.hid (cloneOw_any go _ _ _ hpos hle w hrow)
    rw [ev] at c1
    rw [hS.len] at c1
    unfold OwnR
    rw [hov]
    obtain ⟨n, hn⟩ : ∃ n, (own ts y).length = n := ⟨_, rfl⟩
    rw [hn] at HC hc5 ⊢
    have h1' : (k : Int) < ((imgs ts).length : Int) := by omega
    obtain ⟨nv, hnv⟩ : ∃ nv, (imgs ts).length = nv := ⟨_, rfl⟩
    rw [hnv] at c1 h1'
    clear hX hh h1 hkl hy hS hkv hr hrk ho2 hov hpos hle ev hrow eo1 eo2 eo3 c0 c2 hn hnv
    go_enter Try.func10, Try.ntmps10
    go_wp2_with (first
      | (go_at_call 24; refine HHAS.out.mono ?_; rintro e w1 ⟨rfl, rfl⟩)
      | (go_at_call 25; refine HC.out.mono ?_; rintro e w2 ⟨g', cap, rfl, hg, hrow, hb⟩))
    go_ret
    exact ⟨_, _, rfl, hrow, hb⟩
end Go.Proofs.Ytmlinoanpcbflaa

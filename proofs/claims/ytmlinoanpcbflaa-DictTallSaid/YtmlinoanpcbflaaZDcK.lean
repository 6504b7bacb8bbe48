/- The map of formats: looked up, told one more; one template more; plain facts of what may be added. No condition beyond what is named. -/
import Derived.Test.YtmlinoanpcbflaaZDcJ
import Derived.DeepKeys4
import Derived.Deep.RegionLaw
namespace Go.Proofs.Ytmlinoanpcbflaa
open Go.RowKit Go.ChangeMaps Go.MapKept
set_option linter.unusedVariables false
open Dc
set_option maxRecDepth 100000 in
theorem Try.laidB : laidOutB Try.prog = true := by kernel_rfl
set_option maxRecDepth 100000 in
theorem kfmt : Go.Maps.Keyed Try.prog 25 :=
  Go.Maps.Keyed.of_law (deep_law_laid Try.laidB (m := 8) (by omega) (of_decide_eq_true (by kernel_rfl)) (by kernel_rfl) (by kernel_rfl))
namespace Dc
/-- integers that the machine has -/
def I64 (n : Int) : Prop := (Lit.int .i64 n).wf = true
theorem i64_of {n : Int} (h1 : -9223372036854775808 ≤ n) (h2 : n ≤ 9223372036854775807) : I64 n := by
  unfold I64 Lit.wf
  have e1 : IntKind.i64.min = -9223372036854775808 := rfl
  have e2 : IntKind.i64.max = 9223372036854775807 := rfl
  show (decide (IntKind.i64.min ≤ n) && decide (n ≤ IntKind.i64.max)) = true
  rw [e1, e2, decide_eq_true h1, decide_eq_true h2]; rfl
set_option maxRecDepth 100000 in
theorem key_fmt (f : Int × Int) (h1 : I64 f.1) (h2 : I64 f.2) : ∃ kl, keyOf Try.prog 25 (fv f) = some kl := by
  obtain ⟨a, b⟩ := f
  refine ⟨.string (keyBytes [.int .i64 a, .int .i64 b]), ?_⟩
  unfold I64 at h1 h2
  have hkt : Try.prog.keyType 25 = true := by kernel_rfl
  have hform : (Value.agg #[.int .i64 a, .int .i64 b]).formed Try.prog 25 = true := by kernel_rfl
  obtain ⟨m, hm⟩ : ∃ m, Try.prog.types.size = m + 1 := ⟨Try.prog.types.size - 1, by kernel_rfl⟩
  have hcl : Try.prog.cellsOf 25 = 2 := by kernel_rfl
  have hci : Try.prog.cellsOf 3 = 1 := by kernel_rfl
  unfold keyOf fv
  rw [Try.underlying25]
  dsimp only
  rw [if_pos (by rw [hkt, hform]; rfl), hm]
  unfold Program.keyLits
  rw [Try.underlying25]
  dsimp only [Value.cells]
  rw [if_pos ⟨by rw [hcl]; rfl, by kernel_rfl⟩]
  simp [Program.keyLits, Try.underlying3, hci, h1, h2]
theorem fv_inj {f g : Int × Int} (h : fv f = fv g) : f = g := by
  obtain ⟨a, b⟩ := f
  obtain ⟨c, d⟩ := g
  unfold fv at h
  injection h with h
  have := congrArg Array.toList h
  simp at this
  rw [this.1, this.2]
def FmtI (f : Int × Int) : Prop := I64 f.1 ∧ I64 f.2
section
variable {w w' : World} {F : Nat → Prop} {mb : Nat} {fs : List (Int × Int)} {D : DataW Unit}
/-- the map, as a datum -/
def FmtD (w : World) (mb : Nat) (fs : List (Int × Int)) (D : DataW Unit) : Prop := w.ownsMap Try.prog 25 (plainElem Try.prog 3) mb fs.length D ∧ Maps.size D = fs.length ∧ (∀ kl, Maps.has D kl = true → ∃ f ∈ fs, keyOf Try.prog 25 (fv f) = some kl) ∧
  ∀ (i : Nat) (f : Int × Int), fs[i]? = some f → ∃ kl, keyOf Try.prog 25 (fv f) = some kl ∧ ∀ zd, D.atKey kl zd = .lit (.int .i64 i)
theorem FmtD.of_block (h : FmtD w mb fs D) (hb : w'.heap[mb]? = w.heap[mb]?) : FmtD w' mb fs D := ⟨owns_block h.1 hb, h.2⟩
theorem FmtD.has (h : FmtD w mb fs D) {f : Int × Int} {kl : Lit} (hk : keyOf Try.prog 25 (fv f) = some kl) : Maps.has D kl = decide (f ∈ fs) := by
  cases hh : Maps.has D kl with
  | true =>
    obtain ⟨g, hg, he⟩ := h.2.2.1 kl hh
    have := fv_inj (kfmt.inj he hk)
    subst this
    exact (decide_eq_true hg).symm
  | false =>
    symm
    refine decide_eq_false fun hf => ?_
    obtain ⟨i, hi, e⟩ := List.getElem_of_mem hf
    obtain ⟨kl', h1, h2⟩ := h.2.2.2 i f (by rw [List.getElem?_eq_getElem hi, e])
    rw [hk] at h1
    cases h1
    rw [Maps.has_true_of_atKey h2] at hh
    cases hh
theorem zero_int (W : World) : (zeroValue 3).run Try.prog W = .ok (.int .i64 0) W := by
  obtain ⟨i0, hi, hz0, hz1, hz2⟩ := info_parts Try.info_dint
  simp [zeroValue, typeInfo, hi, hz0]
theorem FmtD.look (h : FmtD w mb fs D) {f : Int × Int} (hf : FmtI f) : ∃ y : Int, (Instr.lookup 57 (.map (some mb)) (fv f) true).run Try.prog w = .ok (.tuple #[.int .i64 y, .bool (decide (f ∈ fs))]) w := by
  obtain ⟨kl, hk⟩ := key_fmt f hf.1 hf.2
  obtain ⟨v, ps, hr, hv⟩ := h.1.look_ok kfmt Try.underlying57 (zero_int w) (plainElem_int (H := Unit) Try.underlying3 (a := 0) (i64_of (by omega) (by omega))) hk
  obtain ⟨y, rfl, _⟩ := plainElem_int_inv Try.underlying3 hv
  rw [h.has hk] at hr
  exact ⟨y, hr⟩
theorem FmtD.more (h : FmtD w mb fs D) {f : Int × Int} (hf : FmtI f) (hn : f ∉ fs) (hl : fs.length ≤ 1000000) : ∃ w' D', (Instr.mapUpdate 57 (.map (some mb)) (fv f) (.int .i64 (fs.length : Int))).run Try.prog w = .ok () w' ∧ FmtD w' mb (fs ++ [f]) D' ∧ w.mapTurned w' mb := by
  obtain ⟨kl, hk⟩ := key_fmt f hf.1 hf.2
  obtain ⟨w', hr, h1, h2⟩ := h.1.store kfmt Try.underlying57 (by unfold maxLen; omega) (key := fv f) (val := .int .i64 (fs.length : Int)) hk (plainElem_int (H := Unit) Try.underlying3 (i64_of (by omega) (by omega)))
  have hhas : Maps.has D kl = false := by rw [h.has hk]; exact decide_eq_false hn
  have hll : (fs ++ [f]).length = fs.length + 1 := by simp
  have hkey := kfmt.key hk
  refine ⟨w', _, hr, ⟨by rw [hll]; exact h1, ?_, fun kl' hk' => ?_, fun i g hg => ?_⟩, h2⟩
  · rw [Maps.size_put (h.1.tidy kfmt), if_neg (by rw [hhas]; exact Bool.false_ne_true), h.2.1, hll]
  · by_cases e : kl' = kl
    · subst e; exact ⟨f, by simp, hk⟩
    · rw [Maps.has_put_other e] at hk'
      obtain ⟨g, hg, he⟩ := h.2.2.1 kl' hk'
      exact ⟨g, by simp [hg], he⟩
  · by_cases hi : i < fs.length
    · rw [List.getElem?_append_left hi] at hg
      obtain ⟨kl', h3, h4⟩ := h.2.2.2 i g hg
      refine ⟨kl', h3, fun zd => ?_⟩
      rw [Maps.atKey_put_other (fun e => hn ?_)]
      · exact h4 zd
      · subst e
        rw [fv_inj (kfmt.inj hk h3)]
        exact List.mem_of_getElem? hg
    · have : i = fs.length := by have := (List.getElem?_eq_some_iff.1 hg).1; simp at this; omega
      subst this
      simp at hg
      subst hg
      exact ⟨kl, hk, fun zd => Maps.atKey_put_same h.1.isMap hkey _ zd⟩
theorem mapTurned_block {w w' : World} {b : Nat} (h : w.mapTurned w' b) : w'.os = w.os ∧ w'.tape = w.tape ∧ w'.output = w.output ∧ w.heap.size ≤ w'.heap.size ∧ ∀ g, g ≠ b → w'.heap[g]? = w.heap[g]? := by
  obtain ⟨es, clock, es', clock', hb, rfl⟩ := h
  exact ⟨rfl, rfl, rfl, by simp [setBlock], fun g hg => heap_setBlock_other hb _ hg⟩
/-- one template more -/
theorem TplX.push {v : Value} {l : List Te} (h : TplX w F v l) {r : Te} (hi : w.ownsRow 0 23 1 (Te.pv r) r.1.2.2.2.2.length (r.1.2.2.2.2.map (Value.int .u64)) ∧ In F (Te.pv r)) (ht : w.ownsRow 0 3 1 (Te.tv r) r.2.2.2.length (r.2.2.2.map (Value.int .i64)) ∧ In F (Te.tv r)) {g cap : Nat} (hrow : w'.ownsRow 0 74 6 (.slice (some ⟨g, 0, none⟩) (l.length + 1) cap) (l.length + 1) ((l ++ [r]).flatMap tcs)) (hg : w.grownBy w' v.ownBlock) (hF : F g) : TplX w' F (.slice (some ⟨g, 0, none⟩) (l.length + 1) cap) (l ++ [r]) := by
  have hk : ∀ (j : Nat) cs t, w.heap[j]? = some (.cells cs t (0, 0)) → t ≠ 74 → w'.heap[j]? = w.heap[j]? := fun j cs t hj hne => hg.block j (Array.getElem?_eq_some_iff.1 hj).1 fun e => by
    obtain ⟨cur, hc⟩ := own_type h.row e.symm
    rw [hj] at hc
    injection hc with hc
    injection hc with _ hc _
    exact hne hc
  refine ⟨by simpa using hrow, fun j hj => by simp [Value.ownBlock] at hj; subst hj; exact hF, fun q hq => ?_, fun q hq => ?_⟩
  · have hq' : w.ownsRow 0 23 1 (Te.pv q) q.1.2.2.2.2.length (q.1.2.2.2.2.map (Value.int .u64)) ∧ In F (Te.pv q) := by
      rcases List.mem_append.1 hq with hq | hq
      · exact h.img q hq
      · obtain rfl := List.mem_singleton.1 hq; exact hi
    refine ⟨own_of_block hq'.1 fun j hj => ?_, hq'.2⟩
    obtain ⟨cur, hc⟩ := own_type hq'.1 hj
    exact hk j _ _ hc (by decide)
  · have hq' : w.ownsRow 0 3 1 (Te.tv q) q.2.2.2.length (q.2.2.2.map (Value.int .i64)) ∧ In F (Te.tv q) := by
      rcases List.mem_append.1 hq with hq | hq
      · exact h.trn q hq
      · obtain rfl := List.mem_singleton.1 hq; exact ht
    refine ⟨own_of_block hq'.1 fun j hj => ?_, hq'.2⟩
    obtain ⟨cur, hc⟩ := own_type hq'.1 hj
    exact hk j _ _ hc (by decide)
/-- templates stand as long as blocks of three types stand -/
theorem TplX.keep {v : Value} {l : List Te} (h : TplX w F v l) (hk : ∀ g cs t, F g → w.heap[g]? = some (.cells cs t (0, 0)) → (t = 74 ∨ t = 23 ∨ t = 3) → w'.heap[g]? = w.heap[g]?) : TplX w' F v l := by
  refine ⟨own_of_block h.row fun g hg => ?_, h.here, fun r hr => ⟨own_of_block (h.img r hr).1 fun g hg => ?_, (h.img r hr).2⟩, fun r hr => ⟨own_of_block (h.trn r hr).1 fun g hg => ?_, (h.trn r hr).2⟩⟩
  · obtain ⟨cur, hc⟩ := own_type h.row hg
    exact hk g _ _ (h.here g hg) hc (.inl rfl)
  · obtain ⟨cur, hc⟩ := own_type (h.img r hr).1 hg
    exact hk g _ _ ((h.img r hr).2 g hg) hc (.inr (.inl rfl))
  · obtain ⟨cur, hc⟩ := own_type (h.trn r hr).1 hg
    exact hk g _ _ ((h.trn r hr).2 g hg) hc (.inr (.inr rfl))
end
/-- may it be -/
def mayB (x : Im) : Bool := Im.mayV x.1 x.2.1 (x.2.2.1 : Nat) (x.2.2.2.1 : Nat) x.2.2.2.2.length x.2.2.2.2
theorem may_ok' {x : Im} (h : mayB x = true) : Rc.Ok x.2.2.1 x.2.2.2.1 x.2.2.2.2 := by
  unfold mayB Im.mayV at h
  rw [Bool.and_eq_true] at h
  exact Rc.may_ok h.1
theorem may_fmt {x : Im} (h : mayB x = true) : FmtI (fmt x) := by
  have hok := may_ok' h
  unfold mayB Im.mayV at h
  rw [Bool.and_eq_true] at h
  obtain ⟨_, h2⟩ := h
  obtain ⟨c, m, W, H, L⟩ := x
  dsimp only at hok h2
  obtain ⟨o1, o2, o3, o4, o5, o6⟩ := hok
  cases L with
  | nil =>
    exfalso
    have h9 : 0 < (H : Int).toNat * (W : Int).toNat := Nat.mul_pos (by omega) (by omega)
    rw [← o6] at h9
    simp at h9
  | cons p L =>
    unfold fitL at h2
    rw [List.all_cons, Bool.and_eq_true] at h2
    have h3 := h2.1
    unfold Pq.Px.fitsV at h3
    rw [Bool.and_eq_true] at h3
    have h4 := h3.1
    unfold Pq.Px.formatV at h4
    simp at h4
    unfold FmtI fmt
    dsimp only
    refine ⟨i64_of ?_ ?_, i64_of ?_ ?_⟩ <;> omega
theorem keyOf_fit {x : Im} (hok : Rc.Ok x.2.2.1 x.2.2.2.1 x.2.2.2.2) {g : Int} (hg : fitB x g = true) : Tu.keyOf x.2.2.1 x.2.2.2.1 x.2.2.2.2 g.toNat = some (key x g) := by
  obtain ⟨c, m, W, H, L⟩ := x
  dsimp only at hok ⊢
  obtain ⟨o1, o2, o3, o4, o5, o6⟩ := hok
  unfold fitB at hg
  simp only [Bool.and_eq_true, decide_eq_true_eq] at hg
  unfold Tu.keyOf key
  dsimp only
  refine if_pos ?_
  unfold Rc.sized
  unfold Tu.sw at hg ⊢
  by_cases h : g.toNat % 2 = 1
  · rw [if_pos h, if_pos h] at hg ⊢
    rw [Int.mul_comm] at o5
    simp; omega
  · rw [if_neg h, if_neg h] at hg ⊢
    simp; omega
theorem area_ins (l : List Im) (x : Im) : area (ins l x) ≤ area l + x.2.2.2.2.length := by
  unfold ins; split
  · omega
  · rw [area_append]; simp [area]
theorem area_insAll {n : Nat} (xs : List Im) : ∀ l : List Im, (∀ x ∈ xs, x.2.2.2.2.length ≤ n) → area (insAll l xs) ≤ area l + xs.length * n := by
  induction xs with
  | nil => intro l _; simp [insAll]
  | cons x xs ih =>
    intro l h
    have h1 := ih (ins l x) fun y hy => h y (by simp [hy])
    have h2 := area_ins l x
    have h3 := h x (by simp)
    rw [insAll_cons, List.length_cons, Nat.succ_mul]; omega
theorem area_mem {l : List Im} {x : Im} (h : x ∈ l) : x.2.2.2.2.length ≤ area l := by
  induction l with
  | nil => cases h
  | cons y l ih =>
    unfold area
    rw [List.map_cons, List.sum_cons]
    rcases List.mem_cons.1 h with rfl | h
    · omega
    · have := ih h
      unfold area at this
      omega
theorem lay_len (x : Im) (hok : Rc.Ok x.2.2.1 x.2.2.2.1 x.2.2.2.2) (g : Int) : (lay x g).2.2.2.2.length = x.2.2.2.2.length := by
  obtain ⟨c, m, W, H, L⟩ := x
  dsimp only at hok
  show (Tu.layL g.toNat W H L).length = L.length
  rw [Tu.layL_len, hok.2.2.2.2.2, Nat.mul_comm]
  simp
/-- a dictionary that may be -/
structure OkD (ts : List Tp) : Prop where
  few : ts.length ≤ 64
  small : area (imgs ts) ≤ 65536
  turns : ∀ p ∈ ts, p.2.length ≤ 9
theorem prs_len (t : Nat) (p : Tp) : (prs t p).length = p.2.length := by simp [prs]
theorem pairs_len {ts : List Tp} (h : ∀ p ∈ ts, p.2.length ≤ 9) : (pairs ts).length ≤ 9 * ts.length := by
  induction hn : ts.length generalizing ts with
  | zero => have : ts = [] := List.eq_nil_of_length_eq_zero hn; subst this; simp [pairs]
  | succ n ih =>
    obtain ⟨ys, y, rfl⟩ : ∃ ys y, ts = ys ++ [y] := ⟨ts.dropLast, ts.getLast (by intro e; subst e; cases hn), (List.dropLast_concat_getLast _).symm⟩
    have h1 := ih (ts := ys) (fun p hp => h p (by simp [hp])) (by simpa using hn)
    have h2 := h y (by simp)
    rw [pairs_more, List.length_append, prs_len]
    omega
theorem imgs_len (ts : List Tp) : (imgs ts).length ≤ (pairs ts).length := by
  have := insAll_len ((pairs ts).map (·.2)) []
  simpa [imgs] using this
theorem own_len (ts : List Tp) (x : Im) : (own ts x).length ≤ (pairs ts).length := by
  unfold own; rw [List.length_map]; exact List.length_filter_le ..
theorem adds_len (t : Nat) (p : Tp) (k : Nat) (x : Im) : (adds t p k x).length ≤ p.2.length := by
  unfold adds
  rw [List.length_map]
  refine Nat.le_trans (List.length_filter_le ..) ?_
  rw [List.length_take]; omega
end Dc
/-- at a step of a region that draws its order: 'm[k] = v' -/
theorem step_mapUp {ops : Array Oper} {o : Oper} {a : Act} {w : World} {K : Act → World → Prop} {Q : Exit → Act → World → Prop} {E : Prop} (hgd : o.guard = none) (m x v : Operand) (t : TypeId) (ho : o.op = .mapUpdate t m x v) {mv xv vv : Value} {w' : World} (hm : a.eval m = mv) (hx : a.eval x = xv) (hv : a.eval v = vv) (hr : (Instr.mapUpdate t mv xv vv).run Try.prog w = .ok () w') (hK : K (a.put o.dst undef) w') :
    if Region.wanted o (yielded ops a.tmps) = true then Oper.wp Try.prog o a w K Q else E := by
  have hw : Region.wanted o (yielded ops a.tmps) = true := by simp [Region.wanted, hgd]
  rw [if_pos hw]
  unfold Oper.wp
  simp [execOp, ho, hm, hx, hv, hr, Result.andThen]
  exact hK
end Go.Proofs.Ytmlinoanpcbflaa

/- A region that draws its order, in a round of a range over a function: what yields its value in every world of a kind may be taken first. Condition: none of its operations defers, none selects. -/
import Derived.Test.YtehmbnloplamaaaRng
import Derived.OrdersHeld
import Derived.OrdersIn
namespace Go.Proofs.Ytehmbnloplamaaa
open Go
/-- an operation that is no defer -/
def calmO (o : Oper) : Bool := match o.op with | .defer _ => false | _ => true
theorem calmO_ne {o : Oper} (h : calmO o = true) : ∀ c, o.op ≠ .defer c := fun c e => by unfold calmO at h; rw [e] at h; cases h
theorem calm_at {ops : Array Oper} (h : ops.all calmO = true) {j : Nat} {o : Oper} (hj : ops[j]? = some o) : ∀ c, o.op ≠ .defer c := by
  rw [Array.all_eq_true] at h
  obtain ⟨hlt, e⟩ := Array.getElem?_eq_some_iff.1 hj
  exact calmO_ne (e ▸ h j hlt)
section
variable {l n : Nat} {P : Program} {ops : Array Oper} {Q : Exit → Act → World → Prop} {md : Region.Mode} {S : World → Prop}
/-- whatever comes up, and S holds behind each -/
def rdAny (l n : Nat) (P : Program) (md : Region.Mode) (ops : Array Oper) (Q : Exit → Act → World → Prop) (S : World → Prop) : Nat → Array Bool → Act → World → Prop
  | 0, listed, a, w => Region.ready md ops listed = [] ∧ Q .normal a w
  | k + 1, listed, a, w => (Region.ready md ops listed = [] → Q .normal a w) ∧
    ∀ i ∈ Region.ready md ops listed, wpOpIn (Fence.wide.inRound l) n P ops Q i (fun a' w' => S w' ∧ rdAny l n P md ops Q S k (listed.setIfInBounds i true) a' w') a w
theorem rdAny_sound : ∀ (k : Nat) (listed : Array Bool) (a : Act) (w : World), rdAny l n P md ops Q S k listed a w → wpAnyIn (Fence.wide.inRound l) n P md ops Q k listed a w
  | 0, _, _, _, h => h
  | k + 1, _, _, _, h => ⟨h.1, fun i hi => wpOpIn_mono (fun a' w' h' => rdAny_sound k _ a' w' h'.2) (h.2 i hi)⟩
theorem rd_begin {id : Nat} {a : Act} {w : World} (hm : P.follows .mixedOrders = true) (hS : S w.drew)
    (h : S w.drew → rdAny l n P .any ops Q S ops.size (Array.replicate ops.size false) a w.drew) : (Code.region id ops true).wpIn (Fence.wide.inRound l) n P Q a w :=
  wpIn_region_any hm (rdAny_sound _ _ _ _ (h hS))
theorem rd_yield {i : Nat} {o : Oper} {v : Value} {a : Act} (hc : ∀ c, o.op ≠ .defer c) (hi : ops[i]? = some o) (hy : YieldsIf P ops S o v a) {K : Act → World → Prop} {w : World} (hS : S w) (h : K (a.put o.dst v) w) :
    wpOpIn (Fence.wide.inRound l) n P ops Q i K a w := by
  unfold wpOpIn
  simp only [hi]
  rcases hy with ⟨hw, hv⟩ | ⟨hw, rfl⟩
  · rw [if_pos hw]
    refine ⟨fun _ _ => trivial, ?_⟩
    rw [Oper.semAt_eq _ _ _ hc, hv w hS]
    exact h
  · rw [if_neg (by rw [hw]; exact Bool.false_ne_true)]
    exact ⟨fun _ _ => trivial, h⟩
/-- an operation that is apart from one that yields -/
theorem rd_past {j : Nat} {oi oj : Oper} {v : Value} (hcj : ∀ c, oj.op ≠ .defer c) (hj : ops[j]? = some oj) (hap : oi.apart ops oj = true) (hsi : ∀ cs b, oi.op ≠ .select cs b) (hsj : ∀ cs b, oj.op ≠ .select cs b)
    (hQ : ∀ c a w, Q (.panic c) (a.put oi.dst v) w → Q (.panic c) a w) {K : Act → World → Prop} {a : Act} {w : World} (hy : YieldsIf P ops S oi v a)
    (h : wpOpIn (Fence.wide.inRound l) n P ops Q j K (a.put oi.dst v) w) : wpOpIn (Fence.wide.inRound l) n P ops Q j (fun a' w' => YieldsIf P ops S oi v a' ∧ K (a'.put oi.dst v) w') a w := by
  obtain ⟨q1, q2, q3⟩ := Oper.apart_spec hap
  have stay : ∀ (b : Act), YieldsIf P ops S oi v b → ∀ u, YieldsIf P ops S oi v (b.put oj.dst u) := fun b hb u => hb.of_same (execOp_put oi hsi b oj.dst u q3) (wanted_put oi b oj.dst u q3)
  have stayD : ∀ d, YieldsIf P ops S oi v { a with defers := d :: a.defers } := fun d => hy.of_same rfl rfl
  unfold wpOpIn at h ⊢
  simp only [hj] at h ⊢
  rw [wanted_put oj a oi.dst v q1] at h
  by_cases hw : Region.wanted oj (yielded ops a.tmps) = true
  · rw [if_pos hw] at h ⊢
    refine ⟨fun _ _ => trivial, ?_⟩
    have g := h.2
    rw [Oper.semAt_eq _ _ _ hcj, execOp_put oj hsj a oi.dst v q1] at g
    rw [Oper.semAt_eq _ _ _ hcj]
    generalize (execOp a.eval oj).run P w = r at g ⊢
    cases r with
    | halt x w' =>
      cases x <;> simp only [Oper.uponIn] at g ⊢
      case panic u => exact hQ _ _ _ g
    | ok x w' =>
      cases x <;> simp only [Oper.uponIn] at g ⊢
      case value u => exact ⟨stay a hy u, by rw [← Act.put_comm a v u q2]; exact g⟩
      case skip => exact ⟨stay a hy _, by rw [← Act.put_comm a v undef q2]; exact g⟩
      case defer d =>
        refine ⟨stay _ (stayD d) _, ?_⟩
        rw [← Act.put_comm _ v undef q2, ← Act.put_defers]
        exact g
      case enter f args =>
        refine ⟨g.1, CallsIn.mono g.2 fun e w'' he => ?_⟩
        cases e with
        | returned u => exact ⟨stay a hy u, by rw [← Act.put_comm a v u q2]; exact he⟩
        | panicked c => exact hQ _ _ _ he
        | outgrown => exact he
      case row row args => exact ⟨g.1, RowsIn.mono g.2 fun u w'' he => ⟨stay a hy u, by rw [← Act.put_comm a v u q2]; exact he⟩⟩
      case round l' f tmps assign body =>
        refine ⟨g.1, RoundIn.mono g.2 fun e w'' he => ?_⟩
        cases e with
        | returned u => exact ⟨stay a hy u, by rw [← Act.put_comm a v u q2]; exact he⟩
        | panicked c => exact hQ _ _ _ he
        | outgrown => exact he
  · rw [if_neg hw] at h ⊢
    exact ⟨fun _ _ => trivial, stay a hy _, by rw [← Act.put_comm a v undef q2]; exact h.2⟩
theorem rd_first (hcm : ops.all calmO = true) {i : Nat} {oi : Oper} {v : Value} (hi : ops[i]? = some oi) (hsel : ∀ (j : Nat) (o : Oper) cs b, ops[j]? = some o → o.op ≠ .select cs b) (hQ : ∀ c a w, Q (.panic c) (a.put oi.dst v) w → Q (.panic c) a w) :
    ∀ (k : Nat) (listed : Array Bool) (a : Act) (w : World), (∀ j oj, ops[j]? = some oj → j ≠ i → listed.getD j true = false → (∀ e ∈ oj.after, Region.binds md e = true → e.on ≠ i) → oi.apart ops oj = true) →
      i ∈ Region.ready md ops listed → YieldsIf P ops S oi v a → S w → rdAny l n P md ops Q S k (listed.setIfInBounds i true) (a.put oi.dst v) w → rdAny l n P md ops Q S (k + 1) listed a w
  | 0, listed, a, w, hfree, hr, hy, hS, H => by
    refine ⟨fun e => (by rw [e] at hr; cases hr), fun j hj => ?_⟩
    by_cases hji : j = i
    · subst hji; exact rd_yield (calm_at hcm hi) hi hy hS ⟨hS, H⟩
    · have := ready_mono hj hji
      rw [H.1] at this
      cases this
  | k + 1, listed, a, w, hfree, hr, hy, hS, H => by
    refine ⟨fun e => (by rw [e] at hr; cases hr), fun j hj => ?_⟩
    by_cases hji : j = i
    · subst hji; exact rd_yield (calm_at hcm hi) hi hy hS ⟨hS, H⟩
    · obtain ⟨hjun, oj, hoj, hall⟩ := mem_ready.1 hj
      have hnot : ∀ e ∈ oj.after, Region.binds md e = true → e.on ≠ i := fun e he hb heq => by
        have g1 := hall e he hb
        have g0 := (mem_ready.1 hr).1
        rw [heq] at g1
        rcases Nat.lt_or_ge i listed.size with hlt | hge
        · simp [hlt] at g0 g1; rw [g0] at g1; cases g1
        · simp [Array.getElem?_eq_none hge] at g1
      have h2 := rd_past (calm_at hcm hoj) hoj (hfree j oj hoj hji hjun hnot) (fun cs b => hsel i oi cs b hi) (fun cs b => hsel j oj cs b hoj) hQ hy (H.2 j (ready_mono hj hji))
      refine wpOpIn_mono (fun a' w' h3 => ⟨h3.2.1, rd_first hcm hi hsel hQ k _ a' w' (fun x ox hx hxi hun hno => hfree x ox hx hxi ?_ hno) (ready_mono hr (Ne.symm hji)) h3.1 h3.2.1 ?_⟩) h2
      · by_cases hjk : j = x
        · subst hjk; exact hjun
        · rw [getD_set_ne true hjk] at hun; exact hun
      · rw [Array.setIfInBounds_comm _ _ hji]
        exact h3.2.2
/-- one is taken first -/
theorem rd_take {i : Nat} (oi : Oper) (v : Value) {k : Nat} {listed : Array Bool} {a : Act} {w : World} (hcm : ops.all calmO = true) (hi : ops[i]? = some oi) (hs : Region.noSelect ops = true) (hf : Region.free md ops listed i = true) (hr : (Region.ready md ops listed).contains i = true)
    (hQ : ∀ c a w, Q (.panic c) (a.put oi.dst v) w → Q (.panic c) a w) (hy : YieldsIf P ops S oi v a) (hS : S w)
    (h : rdAny l n P md ops Q S k (listed.setIfInBounds i true) (a.put oi.dst v) w) : rdAny l n P md ops Q S (k + 1) listed a w :=
  rd_first hcm hi (Region.noSelect_spec hs) hQ k listed a w (Region.free_spec hi hf) (by simpa using hr) hy hS h
/-- one alone may come up -/
theorem rd_one {i : Nat} (oi : Oper) {k : Nat} {listed : Array Bool} {a : Act} {w : World} (hr : Region.ready md ops listed = [i]) (hi : ops[i]? = some oi)
    (h : ∀ K : Act → World → Prop, (∀ a' w', S w' → (S w' → rdAny l n P md ops Q S k (listed.setIfInBounds i true) a' w') → K a' w') →
      if Region.wanted oi (yielded ops a.tmps) = true then oi.wpIn (Fence.wide.inRound l) n P a w K Q else (∀ f, oi.about P w a.eval = some f → Fence.wide.fn f) ∧ K (a.put oi.dst undef) w) : rdAny l n P md ops Q S (k + 1) listed a w := by
  refine ⟨fun e => (by rw [e] at hr; cases hr), fun j hj => ?_⟩
  rw [hr, List.mem_singleton] at hj
  subst hj
  unfold wpOpIn
  simp only [hi]
  exact h _ fun a' w' h1 h2 => ⟨h1, h2 h1⟩
theorem rd_done {listed : Array Bool} {a : Act} {w : World} (hr : Region.ready md ops listed = []) (h : Q .normal a w) : ∀ k, rdAny l n P md ops Q S k listed a w
  | 0 => ⟨hr, h⟩
  | _ + 1 => ⟨fun _ => h, by rw [hr]; simp⟩
end
end Go.Proofs.Ytehmbnloplamaaa

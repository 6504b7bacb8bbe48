/- A scanner of a set: it begins, is told a number, set back. Condition: the set is of few rows. -/
import Derived.Test.YtpkikhoicobmcaaZWdB
import Derived.Test.YtpkikhoicobmcaaZWdC
namespace Go.Proofs.Ytpkikhoicobmcaa
open Go.RowKit
set_option linter.unusedVariables false
open Tr Au Wd
namespace Wd
theorem fin_deepS {S : LL} (hS : Ok S) (x : List Int) : finV (pathsOf S) S (deep (pathsOf S) x : Nat) = fin S x := by
  have hI := paths_iw hS
  rw [fin_at (deep_lt hI.inv x), deep_at hI.inv, fin_suf (fun y hy => (hI.ws y hy).1)]
/-- a set, and its automaton, if there is one -/
structure WsA (w : World) (B sb tb nb nc mb : Nat) (rv : Nat → Value) (av : Value) (S : LL) : Prop where
  x : WsX w B sb tb nb nc mb rv av S
  au : av = .pointer none ∨ ∃ Ba ab xb rva, av = .pointer (some ⟨ab, 0, none⟩) ∧ AuS w Ba ab xb rva S ∧ ∀ g, Fas ab xb rva S g → ¬ Fw sb tb nb mb (pathsOf S).length rv g
theorem WsA.later {w w' : World} {B sb tb nb nc mb : Nat} {rv : Nat → Value} {av : Value} {S : LL} (h : WsA w B sb tb nb nc mb rv av S) (hb : Below w.heap.size w w') : WsA w' B sb tb nb nc mb rv av S := ⟨h.x.later hb, by
  rcases h.au with e | ⟨Ba, ab, xb, rva, e, hA, hn⟩
  · exact .inl e
  · exact .inr ⟨Ba, ab, xb, rva, e, hA.later hb, hn⟩⟩
theorem WsA.sep {w w' : World} {F : Nat → Prop} {B sb tb nb nc mb : Nat} {rv : Nat → Value} {av : Value} {S : LL} (h : WsA w B sb tb nb nc mb rv av S) (hs : Sep F w w') (h1 : ∀ g, Fw sb tb nb mb (pathsOf S).length rv g → ¬ F g) (h2 : ∀ Ba ab xb rva, AuS w Ba ab xb rva S → av = .pointer (some ⟨ab, 0, none⟩) → ∀ g, Fas ab xb rva S g → ¬ F g) : WsA w' B sb tb nb nc mb rv av S := ⟨h.x.of_blocks fun g hg => hs.block g (h.x.lt hg).2 (h1 g hg), by
  rcases h.au with e | ⟨Ba, ab, xb, rva, e, hA, hn⟩
  · exact .inl e
  · exact .inr ⟨Ba, ab, xb, rva, e, hA.sep hs (h2 _ _ _ _ hA e), hn⟩⟩
end Wd
/-- what finder, or what makes a scanner, leaves -/
def FindA (w : World) (B sb tb nb nc mb : Nat) (rv : Nat → Value) (S : LL) (e : Ending) (w' : World) : Prop := ∃ Ba ab xb rva, e = .returned (.pointer (some ⟨ab, 0, none⟩)) ∧ AuS w' Ba ab xb rva S ∧ (∀ g, Fas ab xb rva S g → ¬ Fw sb tb nb mb (pathsOf S).length rv g) ∧ WsX w' B sb tb nb nc mb rv (.pointer (some ⟨ab, 0, none⟩)) S ∧ Sep (fun g => g = sb) w w'
def BegS (w : World) (B sb tb nb nc mb : Nat) (rv : Nat → Value) (S : LL) (e : Ending) (w' : World) : Prop := ∃ Ba ab xb rva cb, e = .returned (.pointer (some ⟨cb, 0, none⟩)) ∧ ScX w' cb ab 0 ∧ w.heap.size ≤ cb ∧ ¬ Fas ab xb rva S cb ∧ AuS w' Ba ab xb rva S ∧ (∀ g, Fas ab xb rva S g → ¬ Fw sb tb nb mb (pathsOf S).length rv g) ∧ WsX w' B sb tb nb nc mb rv (.pointer (some ⟨ab, 0, none⟩)) S ∧ Sep (fun g => g = sb) w w'
section
variable {w : World} {B sb tb nb nc mb : Nat} {rv : Nat → Value} {av : Value} {S : LL}
theorem finder_any (h : WsA w B sb tb nb nc mb rv av S) (hS : Ok S) (hl : S.length ≤ 100) (hd : ∀ r ∈ S, r.length ≤ 5) : Calls Try.prog 34 #[.pointer (some ⟨sb, 0, none⟩)] w (FindA w B sb tb nb nc mb rv S) := by
  rcases h.au with rfl | ⟨Ba, ab, xb, rva, rfl, hA, hn⟩
  · refine (finder_new h.x hS hl hd).mono ?_
    rintro e w' ⟨Ba, ab, xb, rva, rfl, hA, hlo, hx, hs⟩
    exact ⟨Ba, ab, xb, rva, rfl, hA, fun g hg hw => by have := hlo g hg; have := (h.x.lt hw).2; omega, hx, hs⟩
  · refine (finder_old h.x).mono ?_
    rintro e w' ⟨rfl, rfl⟩
    exact ⟨Ba, ab, xb, rva, rfl, hA, hn, h.x, Sep.refl _ _⟩
theorem wBegin_any (h : WsA w B sb tb nb nc mb rv av S) (hS : Ok S) (hl : S.length ≤ 100) (hd : ∀ r ∈ S, r.length ≤ 5) : Calls Try.prog 22 #[.pointer (some ⟨sb, 0, none⟩)] w (BegS w B sb tb nb nc mb rv S) := by
  have HF := Lib.hid (finder_any h hS hl hd)
  clear h hS
  go_enter Try.func22, Try.ntmps22
  go_wp2_with (go_at_call 34; refine HF.out.mono ?_; rintro e w1 ⟨Ba, ab, xb, rva, rfl, hA, hn, hx, hs⟩; have HA := Lib.hid hA; have HN := Lib.hid hn; have HX := Lib.hid hx; have HSP := Lib.hid hs; clear hA hn hx hs)
  go_ret
  have hb := box1T w1 (.cells #[.pointer (some ⟨ab, 0, none⟩), .int .i64 0] 73)
  exact ⟨Ba, ab, xb, rva, w1.heap.size, rfl, World.alloc_heap_new w1 _, HSP.out.size, fun e => by have := (HA.out.lt e).2; omega, HA.out.later hb, HN.out, HX.out.later hb, HSP.out.trans (Sep.alloc _ w1 _)⟩
theorem wReset_any {w : World} {cb ab : Nat} {st : Int} (h : ScX w cb ab st) : Calls Try.prog 25 #[.pointer (some ⟨cb, 0, none⟩)] w fun e w' => e = .returned (.tuple #[]) ∧ ScX w' cb ab 0 ∧ Sep (fun g => g = cb) w w' := by
  obtain ⟨c0, c1⟩ := h.cells
  have f1 := h.fr 1
  have HX := Lib.hid h
  clear h
  go_enter Try.func25, Try.ntmps25
  go_wp2
  go_end0
  exact ⟨rfl, HX.out.set 0, Sep.setCell (Z := fun g => g = cb) w rfl _⟩
set_option maxRecDepth 100000 in
set_option maxHeartbeats 2000000 in
theorem wPut_any {w : World} {Ba ab xb : Nat} {rva : Nat → Value} (hA : AuS w Ba ab xb rva S) (hS : Ok S) (hl : S.length ≤ 100) {cb : Nat} {q : List Int} (hc : ScX w cb ab (deep (pathsOf S) q : Nat)) (hcb : ¬ Fas ab xb rva S cb) (p : Int) :
    Calls Try.prog 24 #[.pointer (some ⟨cb, 0, none⟩), .int .u64 p] w fun e w' => ∃ a c, e = .returned (.slice a (fin S (q ++ [p])).length c) ∧ OwnK .i64 w.heap.size w' a (fin S (q ++ [p])) ∧ ScX w' cb ab (deep (pathsOf S) (q ++ [p]) : Nat) ∧ Sep (fun g => g = cb) w w' := by
  obtain ⟨c0, c1⟩ := hc.cells
  have f1 := hc.fr 1
  have hI := paths_iw hS
  have hcl := hc.lt
  have HNx := Lib.hid (fun W (hb : Below w.heap.size w W) => next_P (hA.later hb) hI (deep (pathsOf S) q : Nat) p)
  rw [next_run hI.inv] at HNx
  obtain ⟨y, hy⟩ : ∃ y : Int, ((deep (pathsOf S) (q ++ [p]) : Nat) : Int) = y := ⟨_, rfl⟩
  have HE := Lib.hid (fun W (hA' : AuS W Ba ab xb rva S) => ends_P hA' hI (by omega) (deep (pathsOf S) (q ++ [p]) : Nat))
  unfold EndsR at HE
  rw [fin_deepS hS] at HE
  rw [hy] at HNx HE ⊢
  obtain ⟨x, hx⟩ : ∃ x : Int, ((deep (pathsOf S) q : Nat) : Int) = x := ⟨_, rfl⟩
  rw [hx] at HNx hc c1
  obtain ⟨F, hF⟩ : ∃ F, fin S (q ++ [p]) = F := ⟨_, rfl⟩
  rw [hF] at HE ⊢
  have HA := Lib.hid hA
  have HC := Lib.hid hc
  have HCB := Lib.hid hcb
  have hBr := Below.refl w.heap.size w
  clear hA hc hcb hS hI hy hx hF
  go_enter Try.func24, Try.ntmps24
  go_wp2_with fail
  go_region_with (go_at_call 37; refine (HNx.out _ (by first | exact hBr | exact hBr.drew)).mono ?_; rintro e w8 ⟨rfl, hb8⟩; replace hBr := bel_step (by first | exact hBr | exact hBr.drew) hb8; have q0 := cell_later hBr c0; have q1 := cell_later hBr c1; have qf := (hBr.frozen (p := ⟨cb, 1, none⟩) hcl).trans f1; clear hb8)
  all_goals
    have hcx := (HC.out.later hBr).set y
    have hA5 : AuS (w8.setCell ⟨cb, 1, none⟩ (.int .i64 y)) Ba ab xb rva S := (HA.out.later hBr).of_blocks fun g hg => Below.heap_setCell w8 _ _ g fun e => HCB.out (by have e2 : g = cb := e; rw [← e2]; exact hg)
    have hsp : Sep (fun g => g = cb) w (w8.setCell ⟨cb, 1, none⟩ (.int .i64 y)) := (sep_of hBr).trans (Sep.setCell (Z := fun g => g = cb) w8 rfl _)
    obtain ⟨W5, hW5⟩ : ∃ W5, w8.setCell ⟨cb, 1, none⟩ (.int .i64 y) = W5 := ⟨_, rfl⟩
    rw [hW5] at hcx hA5 hsp
    try rw [hW5]
    have HCX := Lib.hid hcx
    have HSP := Lib.hid hsp
    have HE5 := Lib.hid (fun W (hb : Below W5.heap.size W5 W) => HE.out W (hA5.later hb))
    obtain ⟨d0, d1⟩ := hcx.cells
    clear hcx hA5 hsp hW5 q0 q1 qf c0 c1 hBr
    have hBr := Below.refl W5.heap.size W5
    go_wp2_with fail
    go_region_held3 (fun w' => w'.cell? ⟨cb, 0, none⟩ = some (.pointer (some ⟨ab, 0, none⟩)) ∧ w'.cell? ⟨cb, 1, none⟩ = some (.int .i64 y))
      (first | exact ⟨d0, d1⟩ | exact ⟨cell_later hBr d0, cell_later hBr d1⟩)
      (first | (go_at_call 41; refine (HE5.out _ (by first | exact hBr | exact hBr.drew)).mono ?_; rintro e w9 ⟨a9, c9, rfl, ho, hb9⟩; have HO := Lib.hid ho; have HS9 := Lib.hid (by first | exact hBr.size | exact hBr.drew.size : W5.heap.size ≤ _); replace hBr := bel_step (by first | exact hBr | exact hBr.drew) hb9; clear ho hb9))
    all_goals
      go_wp2_with fail
      go_ret
      exact ⟨a9, c9, rfl, HO.out.mono (Nat.le_trans HSP.out.size HS9.out), HCX.out.later hBr, HSP.out.trans (sep_of hBr)⟩
end
end Go.Proofs.Ytpkikhoicobmcaa

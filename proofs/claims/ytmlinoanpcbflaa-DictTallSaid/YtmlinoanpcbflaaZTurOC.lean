/- All ways to lay a matrix that are not the same, of no turn at all too: both sides told in one form. Condition: the matrix may be; at most nine turns. -/
import Derived.Test.YtmlinoanpcbflaaZTurOB
namespace Go.Proofs.Ytmlinoanpcbflaa
open Go.RowKit
set_option linter.unusedVariables false

set_option maxRecDepth 100000 in
set_option maxHeartbeats 4000000 in
theorem orbit_zero (W H n : Nat) (a A : Option Addr) (c cap : Nat) (w : World) :
    Calls Try.prog 36 #[.agg #[.int .i64 W, .int .i64 H, .slice a n c], .slice A 0 cap] w fun e w' =>
      ∃ P cp, e = .returned (.tuple #[.slice none 0 0, .slice P 0 cp]) ∧ Below w.heap.size w w' := by
  have hmk := run_make_row' (P := Try.prog) 42 3 (.int .i64 0) 8 Try.underlying42 Try.info_in rfl .i64 .i64 0 (by omega) (by omega)
  simp only [Int.natCast_zero] at hmk
  go_enter Try.func36, Try.ntmps36
  go_wp2
  refine wp_loop_rounds 9 ?_
  rw [rounds_succ]
  go_wp2
  rw [rounds_succ]
  go_wp2
  rw [rounds_succ]
  go_wp2
  rw [rounds_succ]
  go_wp2
  rw [rounds_succ]
  go_wp2
  rw [rounds_succ]
  go_wp2
  rw [rounds_succ]
  go_wp2
  rw [rounds_succ]
  go_wp2
  rw [rounds_succ]
  go_wp2
  refine wp_loop_rounds 1 ?_
  rw [rounds_succ]
  go_wp2
  go_ret2
  exact ⟨_, _, rfl, by go_grown⟩
theorem ownI_sl {w : World} {b : Nat} {ty : TypeId} {L : List Int} (h : OwnI w b ty L) : SlK .i64 w (some ⟨b, 0, none⟩) L.length L :=
  ⟨rfl, .inr ⟨b, 0, rfl, fun i hi => by rw [Nat.zero_add]; exact h.cell hi⟩⟩
/-- turn's Orbit, of however many turns up to nine -/
def OrbA (W H n len : Nat) (L ts : List Int) (w : World) (e : Ending) (w' : World) : Prop :=
  ∃ (v : Value) (es : List Ent) (P : Option Addr) (cp base : Nat), e = .returned (.tuple #[v, .slice P len cp]) ∧ es.map Ent.key = (Tu.orbO W H L ts).1 ∧ w'.ownsRow base 34 3 v es.length (ents n es) ∧ Lie n w' es ∧ SlK .i64 w' P len (Tu.orbO W H L ts).2 ∧ Below w.heap.size w w'
theorem orbit_any (W H n len : Nat) (a A : Option Addr) (c cap : Nat) (L ts : List Int) (hL : Rc.Ok W H L) (hn : W * H = n) (hc : n ≤ c) (hc2 : c ≤ 9223372036854775807) (hlen : len ≤ 9) (w : World) (hs : SlK .u64 w a n L) (hT : SlK .i64 w A len ts) :
    Calls Try.prog 36 #[.agg #[.int .i64 W, .int .i64 H, .slice a n c], .slice A len cap] w (OrbA W H n len L ts w) := by
  rcases Nat.eq_zero_or_pos len with rfl | hpos
  · have : ts = [] := List.eq_nil_of_length_eq_zero hT.1
    subst this
    refine (orbit_zero W H n a A c cap w).mono ?_
    rintro e w' ⟨P, cp, rfl, hb⟩
    exact ⟨_, [], P, cp, 0, rfl, rfl, World.ownsRow_nil _ _ _ _, (fun e he => absurd he (by simp)), ⟨rfl, .inl rfl⟩, hb⟩
  · obtain ⟨hl, h0 | ⟨b1, off1, rfl, hc1⟩⟩ := hT
    · omega
    refine (orbit_pos W H n b1 off1 a c len cap L ts hL hn hc hc2 hlen hpos w hs hl hc1).mono ?_
    rintro e w' ⟨v, es, bp, base, rfl, hk, hr, hlie, hbp, hP, hb⟩
    have hsl := ownI_sl hP
    have he : (Tu.orbO W H L ts).2.length = len := by rw [orb_len, hl]
    rw [he] at hsl
    exact ⟨v, es, _, _, base, rfl, hk, hr, hlie, hsl, hb⟩
/-- the document's Orbit, of however many turns up to nine -/
def OrbB (W H n : Nat) (L ts : List Int) (w : World) (e : Ending) (w' : World) : Prop :=
  ∃ (v : Value) (es : List Fnt) (P : Option Addr) (cp base : Nat), e = .returned (.tuple #[v, .slice P (Tu.orbO W H L ts).2.length cp]) ∧ es.map Fnt.key = (Tu.orbO W H L ts).1 ∧ w'.ownsRow base 45 3 v es.length (fnts n es) ∧ Fie n base w' es ∧ SlK .i64 w' P (Tu.orbO W H L ts).2.length (Tu.orbO W H L ts).2 ∧ Below w.heap.size w w'
end Go.Proofs.Ytmlinoanpcbflaa

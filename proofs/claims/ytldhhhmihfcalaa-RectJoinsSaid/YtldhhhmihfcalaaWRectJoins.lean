/- RectJoins: what is put beside, and above, is the document's, or refused; both are there: the walk of the law. No condition. -/
import Derived.Test.YtldhhhmihfcalaaRecJA
import Derived.Test.YtldhhhmihfcalaaRecJB
import Derived.Test.YtldhhhmihfcalaaRecL
import Derived.Test.YtldhhhmihfcalaaRecM
namespace Go.Proofs.Ytldhhhmihfcalaa
open Go.RowKit
set_option linter.unusedVariables false

theorem good_told (W H : Int) (a : Option Addr) (n c : Nat) (zs : List Int) (hW : I64 W) (hH : I64 H) (hn : n ≤ 9223372036854775807) (hz : ∀ x ∈ zs, 0 ≤ x ∧ x ≤ 18446744073709551615) :
    ∃ (GW GH : Int) (G : List Int) (m : Nat), Rc.Ok GW GH G ∧ G.length = m ∧ m ≤ 16777216 ∧ GW ≤ 5 ∧ GH ≤ 5 ∧ ∀ w : World, SlK .u64 w a n zs → Calls Try.prog 13 #[.agg #[.int .i64 W, .int .i64 H, .slice a n c], .int .i64 5] w fun e w' =>
      ∃ ad cap, e = .returned (.agg #[.int .i64 GW, .int .i64 GH, .slice ad m cap]) ∧ SlK .u64 w' ad m G ∧ m ≤ cap ∧ cap ≤ 9223372036854775807 ∧ Below w.heap.size w w' := by
  have hok := good_ok W H 5 zs (by omega) (by omega)
  obtain ⟨g1, g2⟩ := goodW_in W 5 (by omega)
  obtain ⟨g3, g4⟩ := goodW_in H 5 (by omega)
  refine ⟨goodW W 5, goodW H 5, goodM W H 5 zs, _, hok, rfl, ok_len hok, g2, g4, fun w hs => ?_⟩
  refine (good_any W H 5 a n c zs hW hH (by omega) (by omega) hn w hs hz).mono ?_
  rintro e w' ⟨ad, cap, rfl, ho, h1, h2, hb⟩
  exact ⟨ad, cap, rfl, ho.sl, h1, h2, hb⟩
theorem start2 (w : World) (u v x u2 v2 x2 : Value) (t t2 : TypeId) :
    Sb ((w.alloc (.cells #[u, v, x] t)).alloc (.cells #[u2, v2, x2] t2)) w.heap.size t u v x ∧
    Sb ((w.alloc (.cells #[u, v, x] t)).alloc (.cells #[u2, v2, x2] t2)) (w.heap.size + 1) t2 u2 v2 x2 ∧
    Below w.heap.size w ((w.alloc (.cells #[u, v, x] t)).alloc (.cells #[u2, v2, x2] t2)) := by
  refine ⟨(Sb.new _ _ _ _ _).alloc _, ?_, by go_grown⟩
  have := heapNew (w.alloc (.cells #[u, v, x] t)) (.cells #[u2, v2, x2] t2)
  simp only [World.size_alloc] at this
  exact this
def Nine (w : World) (b : Nat) (v0 v1 v2 v3 v4 v5 v6 v7 v8 : Value) : Prop := w.heap[b]? = some (.cells #[v0, v1, v2, v3, v4, v5, v6, v7, v8] 24 (0, 0))
theorem Nine.later {w w' : World} {b : Nat} {v0 v1 v2 v3 v4 v5 v6 v7 v8 : Value} (h : Nine w b v0 v1 v2 v3 v4 v5 v6 v7 v8) (hb : Below w.heap.size w w') : Nine w' b v0 v1 v2 v3 v4 v5 v6 v7 v8 := (hb.block b (Array.getElem?_eq_some_iff.1 h).1).trans h

structure JQ (wr : World) (xb ba k : Nat) (XW XH MW MH : Int) (xa ma : Option Addr) (xn xc mn mc : Nat) (XL ML : List Int) (w : World) : Prop where
  c0 : w.cell? ⟨xb, 0, none⟩ = some (.int .i64 XW)
  c1 : w.cell? ⟨xb, 1, none⟩ = some (.int .i64 XH)
  c2 : w.cell? ⟨xb, 2, none⟩ = some (.slice xa xn xc)
  g0 : w.cell? ⟨ba, k * 3, none⟩ = some (.int .i64 MW)
  g1 : w.cell? ⟨ba, k * 3 + 1, none⟩ = some (.int .i64 MH)
  g2 : w.cell? ⟨ba, k * 3 + 2, none⟩ = some (.slice ma mn mc)
  sx : SlK .u64 w xa xn XL
  sm : SlK .u64 w ma mn ML
  bel : Below wr.heap.size wr w
section
variable {wr : World} {xb ba k : Nat} {XW XH MW MH : Int} {xa ma : Option Addr} {xn xc mn mc : Nat} {XL ML : List Int} {w w' : World}
theorem JQ.later (Q : JQ wr xb ba k XW XH MW MH xa ma xn xc mn mc XL ML w) (hb : Below w.heap.size w w') : JQ wr xb ba k XW XH MW MH xa ma xn xc mn mc XL ML w' :=
  ⟨cell_later hb Q.c0, cell_later hb Q.c1, cell_later hb Q.c2, cell_later hb Q.g0, cell_later hb Q.g1, cell_later hb Q.g2, Q.sx.below hb, Q.sm.below hb, bel_step Q.bel hb⟩
theorem JQ.drew (Q : JQ wr xb ba k XW XH MW MH xa ma xn xc mn mc XL ML w) : JQ wr xb ba k XW XH MW MH xa ma xn xc mn mc XL ML w.drew := Q.later ⟨rfl, rfl, rfl, Nat.le_refl _, fun _ _ => rfl⟩
theorem JQ.more (Q : JQ wr xb ba k XW XH MW MH xa ma xn xc mn mc XL ML w) (o : Obj) : JQ wr xb ba k XW XH MW MH xa ma xn xc mn mc XL ML (w.alloc o) := Q.later (box1 w o)
theorem JQ.start (Q : JQ wr xb ba k XW XH MW MH xa ma xn xc mn mc XL ML w) : JQ w xb ba k XW XH MW MH xa ma xn xc mn mc XL ML w := ⟨Q.c0, Q.c1, Q.c2, Q.g0, Q.g1, Q.g2, Q.sx, Q.sm, .refl _ _⟩
theorem JQ.all (Q : JQ wr xb ba k XW XH MW MH xa ma xn xc mn mc XL ML w) : w.cell? ⟨xb, 0, none⟩ = some (.int .i64 XW) ∧ w.cell? ⟨xb, 1, none⟩ = some (.int .i64 XH) ∧ w.cell? ⟨xb, 2, none⟩ = some (.slice xa xn xc) ∧ w.cell? ⟨ba, k * 3, none⟩ = some (.int .i64 MW) ∧ w.cell? ⟨ba, k * 3 + 1, none⟩ = some (.int .i64 MH) ∧ w.cell? ⟨ba, k * 3 + 2, none⟩ = some (.slice ma mn mc) ∧ JQ wr xb ba k XW XH MW MH xa ma xn xc mn mc XL ML w :=
  ⟨Q.c0, Q.c1, Q.c2, Q.g0, Q.g1, Q.g2, Q⟩
theorem JQ.of (Q : JQ wr xb ba k XW XH MW MH xa ma xn xc mn mc XL ML w) (W H : Int) (a : Option Addr) (n c : Nat) :
    Calls Try.prog 15 #[.agg #[.int .i64 W, .int .i64 H, .slice a n c]] w fun e w' => e = .returned (.agg #[.int .i64 W, .int .i64 H, .slice a n c]) ∧ JQ wr xb ba k XW XH MW MH xa ma xn xc mn mc XL ML w' ∧ Below w.heap.size w w' :=
  (of_any W H a n c w).mono fun e w' h => ⟨h.1, Q.later h.2, h.2⟩
theorem JQ.code (Q : JQ wr xb ba k XW XH MW MH xa ma xn xc mn mc XL ML w) {F G : Nat} {x y p1 p2 p4 : Int} {np : Nat} {P : List Int} (hJ : JoinT F G XW XH MW MH x y xa ma xn mn xc mc XL ML p1 p2 p4 np P) :
    Calls Try.prog F #[.agg #[.int .i64 XW, .int .i64 XH, .slice xa xn xc], .agg #[.int .i64 MW, .int .i64 MH, .slice ma mn mc]] w fun e w' =>
      ∃ ad c, e = .returned (.tuple #[.agg #[.int .i64 p1, .int .i64 p2, .slice ad np c], .int .i64 p4]) ∧ OwnK .u64 w.heap.size w' ad P ∧ np ≤ c ∧ c ≤ 9223372036854775807 ∧ JQ wr xb ba k XW XH MW MH xa ma xn xc mn mc XL ML w' ∧ Below w.heap.size w w' :=
  (hJ.1 w Q.sx Q.sm).mono fun e w' ⟨ad, c, h1, h2, h3, h4, h5⟩ => ⟨ad, c, h1, h2, h3, h4, Q.later h5, h5⟩
theorem JQ.ref (Q : JQ wr xb ba k XW XH MW MH xa ma xn xc mn mc XL ML w) {F G : Nat} {x y p1 p2 p4 : Int} {np : Nat} {P : List Int} (hJ : JoinT F G XW XH MW MH x y xa ma xn mn xc mc XL ML p1 p2 p4 np P) :
    Calls Try.prog G #[.agg #[.int .i64 XW, .int .i64 XH, .slice xa xn xc], .agg #[.int .i64 MW, .int .i64 MH, .slice ma mn mc]] w fun e w' =>
      ∃ ad c, e = .returned (.tuple #[.agg #[.int .i64 p1, .int .i64 p2, .slice ad np c], .int .i64 p4]) ∧ OwnK .u64 w.heap.size w' ad P ∧ np ≤ c ∧ c ≤ 9223372036854775807 ∧ JQ wr xb ba k XW XH MW MH xa ma xn xc mn mc XL ML w' ∧ Below w.heap.size w w' :=
  (hJ.2.1 w Q.sx Q.sm).mono fun e w' ⟨ad, c, h1, h2, h3, h4, h5⟩ => ⟨ad, c, h1, h2, h3, h4, Q.later h5, h5⟩
end
theorem slk_more {base np : Nat} {w : World} {a : Option Addr} {P : List Int} (h : OwnK .u64 base w a P) (hn : P.length = np) (o : Obj) : SlK .u64 (w.alloc o) a np P := by
  have h := (h.later (box1 w o)).sl
  rwa [hn] at h
theorem slk_put {base np b : Nat} {w : World} {a : Option Addr} {P : List Int} (h : OwnK .u64 base w a P) (hn : P.length = np) (hb : b < base) (u v x : Value) : SlK .u64 (((w.setCell ⟨b, 0, none⟩ u).setCell ⟨b, 1, none⟩ v).setCell ⟨b, 2, none⟩ x) a np P := by
  have h := (ownK_set (a := ⟨b, 2, none⟩) (ownK_set (a := ⟨b, 1, none⟩) (ownK_set (a := ⟨b, 0, none⟩) h hb u) hb v) hb x).sl
  rwa [hn] at h

structure JR (wr : World) (xb ba k : Nat) (XW XH MW MH : Int) (xa ma : Option Addr) (xn xc mn mc : Nat) (XL ML : List Int) (pb qb rb sb : Nat) (p1 p2 r1 r2 : Int) (np nr : Nat) (pa qa ra sa : Option Addr) (pc qc rc sc : Nat) (P L : List Int) (w : World) : Prop where
  p : Sb w pb 27 (.int .i64 p1) (.int .i64 p2) (.slice pa np pc)
  q : Sb w qb 24 (.int .i64 p1) (.int .i64 p2) (.slice qa np qc)
  r : Sb w rb 27 (.int .i64 r1) (.int .i64 r2) (.slice ra nr rc)
  s : Sb w sb 24 (.int .i64 r1) (.int .i64 r2) (.slice sa nr sc)
  ps : SlK .u64 w pa np P
  qs : SlK .u64 w qa np P
  rs : SlK .u64 w ra nr L
  ss : SlK .u64 w sa nr L
  pl : np ≤ pc ∧ pc ≤ 9223372036854775807
  rl : nr ≤ rc ∧ rc ≤ 9223372036854775807
  j : JQ wr xb ba k XW XH MW MH xa ma xn xc mn mc XL ML w
section
variable {wr : World} {xb ba k : Nat} {XW XH MW MH : Int} {xa ma : Option Addr} {xn xc mn mc : Nat} {XL ML : List Int} {pb qb rb sb : Nat} {p1 p2 r1 r2 : Int} {np nr : Nat} {pa qa ra sa : Option Addr} {pc qc rc sc : Nat} {P L : List Int} {w w' : World}
theorem JR.later (Q : JR wr xb ba k XW XH MW MH xa ma xn xc mn mc XL ML pb qb rb sb p1 p2 r1 r2 np nr pa qa ra sa pc qc rc sc P L w) (hb : Below w.heap.size w w') : JR wr xb ba k XW XH MW MH xa ma xn xc mn mc XL ML pb qb rb sb p1 p2 r1 r2 np nr pa qa ra sa pc qc rc sc P L w' :=
  ⟨Q.p.later hb, Q.q.later hb, Q.r.later hb, Q.s.later hb, Q.ps.below hb, Q.qs.below hb, Q.rs.below hb, Q.ss.below hb, Q.pl, Q.rl, Q.j.later hb⟩
theorem JR.drew (Q : JR wr xb ba k XW XH MW MH xa ma xn xc mn mc XL ML pb qb rb sb p1 p2 r1 r2 np nr pa qa ra sa pc qc rc sc P L w) : JR wr xb ba k XW XH MW MH xa ma xn xc mn mc XL ML pb qb rb sb p1 p2 r1 r2 np nr pa qa ra sa pc qc rc sc P L w.drew := Q.later ⟨rfl, rfl, rfl, Nat.le_refl _, fun _ _ => rfl⟩
theorem JR.all13 (Q : JR wr xb ba k XW XH MW MH xa ma xn xc mn mc XL ML pb qb rb sb p1 p2 r1 r2 np nr pa qa ra sa pc qc rc sc P L w) : (w.cell? ⟨pb, 0, none⟩ = some (.int .i64 p1) ∧ w.cell? ⟨pb, 1, none⟩ = some (.int .i64 p2) ∧ w.cell? ⟨pb, 2, none⟩ = some (.slice pa np pc) ∧ w.cell? ⟨qb, 0, none⟩ = some (.int .i64 p1) ∧ w.cell? ⟨qb, 1, none⟩ = some (.int .i64 p2) ∧ w.cell? ⟨qb, 2, none⟩ = some (.slice qa np qc) ∧ w.cell? ⟨rb, 0, none⟩ = some (.int .i64 r1) ∧ w.cell? ⟨rb, 1, none⟩ = some (.int .i64 r2) ∧ w.cell? ⟨rb, 2, none⟩ = some (.slice ra nr rc) ∧ w.cell? ⟨sb, 0, none⟩ = some (.int .i64 r1) ∧ w.cell? ⟨sb, 1, none⟩ = some (.int .i64 r2) ∧ w.cell? ⟨sb, 2, none⟩ = some (.slice sa nr sc) ∧ JR wr xb ba k XW XH MW MH xa ma xn xc mn mc XL ML pb qb rb sb p1 p2 r1 r2 np nr pa qa ra sa pc qc rc sc P L w) :=
  ⟨Q.p.cells.1, Q.p.cells.2.1, Q.p.cells.2.2, Q.q.cells.1, Q.q.cells.2.1, Q.q.cells.2.2, Q.r.cells.1, Q.r.cells.2.1, Q.r.cells.2.2, Q.s.cells.1, Q.s.cells.2.1, Q.s.cells.2.2, Q⟩
theorem JR.all15 (Q : JR wr xb ba k XW XH MW MH xa ma xn xc mn mc XL ML pb qb rb sb p1 p2 r1 r2 np nr pa qa ra sa pc qc rc sc P L w) : (w.cell? ⟨pb, 0, none⟩ = some (.int .i64 p1) ∧ w.cell? ⟨pb, 1, none⟩ = some (.int .i64 p2) ∧ w.cell? ⟨pb, 2, none⟩ = some (.slice pa np pc) ∧ w.cell? ⟨xb, 0, none⟩ = some (.int .i64 XW) ∧ w.cell? ⟨xb, 1, none⟩ = some (.int .i64 XH) ∧ w.cell? ⟨xb, 2, none⟩ = some (.slice xa xn xc) ∧ w.cell? ⟨ba, k * 3, none⟩ = some (.int .i64 MW) ∧ w.cell? ⟨ba, k * 3 + 1, none⟩ = some (.int .i64 MH) ∧ w.cell? ⟨ba, k * 3 + 2, none⟩ = some (.slice ma mn mc) ∧ JR wr xb ba k XW XH MW MH xa ma xn xc mn mc XL ML pb qb rb sb p1 p2 r1 r2 np nr pa qa ra sa pc qc rc sc P L w) :=
  ⟨Q.p.cells.1, Q.p.cells.2.1, Q.p.cells.2.2, Q.j.c0, Q.j.c1, Q.j.c2, Q.j.g0, Q.j.g1, Q.j.g2, Q⟩
theorem JR.all17 (Q : JR wr xb ba k XW XH MW MH xa ma xn xc mn mc XL ML pb qb rb sb p1 p2 r1 r2 np nr pa qa ra sa pc qc rc sc P L w) : (w.cell? ⟨rb, 0, none⟩ = some (.int .i64 r1) ∧ w.cell? ⟨rb, 1, none⟩ = some (.int .i64 r2) ∧ w.cell? ⟨rb, 2, none⟩ = some (.slice ra nr rc) ∧ w.cell? ⟨xb, 0, none⟩ = some (.int .i64 XW) ∧ w.cell? ⟨xb, 1, none⟩ = some (.int .i64 XH) ∧ w.cell? ⟨xb, 2, none⟩ = some (.slice xa xn xc) ∧ w.cell? ⟨ba, k * 3, none⟩ = some (.int .i64 MW) ∧ w.cell? ⟨ba, k * 3 + 1, none⟩ = some (.int .i64 MH) ∧ w.cell? ⟨ba, k * 3 + 2, none⟩ = some (.slice ma mn mc) ∧ JR wr xb ba k XW XH MW MH xa ma xn xc mn mc XL ML pb qb rb sb p1 p2 r1 r2 np nr pa qa ra sa pc qc rc sc P L w) :=
  ⟨Q.r.cells.1, Q.r.cells.2.1, Q.r.cells.2.2, Q.j.c0, Q.j.c1, Q.j.c2, Q.j.g0, Q.j.g1, Q.j.g2, Q⟩
theorem JR.of (Q : JR wr xb ba k XW XH MW MH xa ma xn xc mn mc XL ML pb qb rb sb p1 p2 r1 r2 np nr pa qa ra sa pc qc rc sc P L w) (W H : Int) (a : Option Addr) (n c : Nat) :
    Calls Try.prog 15 #[.agg #[.int .i64 W, .int .i64 H, .slice a n c]] w fun e w' => e = .returned (.agg #[.int .i64 W, .int .i64 H, .slice a n c]) ∧ JR wr xb ba k XW XH MW MH xa ma xn xc mn mc XL ML pb qb rb sb p1 p2 r1 r2 np nr pa qa ra sa pc qc rc sc P L w' :=
  (of_any W H a n c w).mono fun e w' h => ⟨h.1, Q.later h.2⟩
theorem JR.as (Q : JR wr xb ba k XW XH MW MH xa ma xn xc mn mc XL ML pb qb rb sb p1 p2 r1 r2 np nr pa qa ra sa pc qc rc sc P L w) (W H : Int) (a : Option Addr) (n c : Nat) :
    Calls Try.prog 20 #[.agg #[.int .i64 W, .int .i64 H, .slice a n c]] w fun e w' => e = .returned (.agg #[.int .i64 W, .int .i64 H, .slice a n c]) ∧ JR wr xb ba k XW XH MW MH xa ma xn xc mn mc XL ML pb qb rb sb p1 p2 r1 r2 np nr pa qa ra sa pc qc rc sc P L w' :=
  (as_any W H a n c w).mono fun e w' h => ⟨h.1, Q.later h.2⟩
theorem JR.same1 (Q : JR wr xb ba k XW XH MW MH xa ma xn xc mn mc XL ML pb qb rb sb p1 p2 r1 r2 np nr pa qa ra sa pc qc rc sc P L w) :
    Calls Try.prog 19 #[.agg #[.int .i64 p1, .int .i64 p2, .slice pa np pc], .agg #[.int .i64 p1, .int .i64 p2, .slice qa np qc]] w fun e w' => e = .returned (.bool true) ∧ JR wr xb ba k XW XH MW MH xa ma xn xc mn mc XL ML pb qb rb sb p1 p2 r1 r2 np nr pa qa ra sa pc qc rc sc P L w' :=
  (refSame_any p1 p2 p1 p2 pa qa np np pc qc P P w (Nat.le_trans Q.pl.1 Q.pl.2) Q.ps Q.qs).mono fun e w' h => ⟨by simpa using h.1, Q.later h.2⟩
theorem JR.same2 (Q : JR wr xb ba k XW XH MW MH xa ma xn xc mn mc XL ML pb qb rb sb p1 p2 r1 r2 np nr pa qa ra sa pc qc rc sc P L w) :
    Calls Try.prog 19 #[.agg #[.int .i64 r1, .int .i64 r2, .slice ra nr rc], .agg #[.int .i64 r1, .int .i64 r2, .slice sa nr sc]] w fun e w' => e = .returned (.bool true) ∧ JR wr xb ba k XW XH MW MH xa ma xn xc mn mc XL ML pb qb rb sb p1 p2 r1 r2 np nr pa qa ra sa pc qc rc sc P L w' :=
  (refSame_any r1 r2 r1 r2 ra sa nr nr rc sc L L w (Nat.le_trans Q.rl.1 Q.rl.2) Q.rs Q.ss).mono fun e w' h => ⟨by simpa using h.1, Q.later h.2⟩
theorem JR.hasp (Q : JR wr xb ba k XW XH MW MH xa ma xn xc mn mc XL ML pb qb rb sb p1 p2 r1 r2 np nr pa qa ra sa pc qc rc sc P L w) {w2 h2 x y : Int} {n2 c2 : Nat} {a2 : Option Addr} {M : List Int} (h : HasT p1 p2 np P w2 h2 n2 a2 c2 M x y) (hs : JR wr xb ba k XW XH MW MH xa ma xn xc mn mc XL ML pb qb rb sb p1 p2 r1 r2 np nr pa qa ra sa pc qc rc sc P L w → SlK .u64 w a2 n2 M) :
    Calls Try.prog 21 #[.agg #[.int .i64 p1, .int .i64 p2, .slice pa np pc], .agg #[.int .i64 w2, .int .i64 h2, .slice a2 n2 c2], .int .i64 x, .int .i64 y] w fun e w' => e = .returned (.bool true) ∧ JR wr xb ba k XW XH MW MH xa ma xn xc mn mc XL ML pb qb rb sb p1 p2 r1 r2 np nr pa qa ra sa pc qc rc sc P L w' :=
  (h w pa pc Q.ps Q.pl.1 Q.pl.2 (hs Q)).mono fun e w' h => ⟨h.1, Q.later h.2⟩
theorem JR.hasr (Q : JR wr xb ba k XW XH MW MH xa ma xn xc mn mc XL ML pb qb rb sb p1 p2 r1 r2 np nr pa qa ra sa pc qc rc sc P L w) {w2 h2 x y : Int} {n2 c2 : Nat} {a2 : Option Addr} {M : List Int} (h : HasT r1 r2 nr L w2 h2 n2 a2 c2 M x y) (hs : JR wr xb ba k XW XH MW MH xa ma xn xc mn mc XL ML pb qb rb sb p1 p2 r1 r2 np nr pa qa ra sa pc qc rc sc P L w → SlK .u64 w a2 n2 M) :
    Calls Try.prog 21 #[.agg #[.int .i64 r1, .int .i64 r2, .slice ra nr rc], .agg #[.int .i64 w2, .int .i64 h2, .slice a2 n2 c2], .int .i64 x, .int .i64 y] w fun e w' => e = .returned (.bool true) ∧ JR wr xb ba k XW XH MW MH xa ma xn xc mn mc XL ML pb qb rb sb p1 p2 r1 r2 np nr pa qa ra sa pc qc rc sc P L w' :=
  (h w ra rc Q.rs Q.rl.1 Q.rl.2 (hs Q)).mono fun e w' h => ⟨h.1, Q.later h.2⟩
end

set_option maxRecDepth 100000 in
set_option maxHeartbeats 8000000 in
theorem rectJoins_walk (a0w0 a0h1 : Int) (a0 : Option Addr) (len0 cap0 : Nat) (z0 : List Int) (a1w0 a1h1 : Int) (a1 : Option Addr) (len1 cap1 : Nat) (z1 : List Int) (w : World) (w00 : (Lit.int .i64 a0w0).wf = true) (w01 : (Lit.int .i64 a0h1).wf = true) (w02 : IsRow .u64 w a0 len0 cap0 z0) (w10 : (Lit.int .i64 a1w0).wf = true) (w11 : (Lit.int .i64 a1h1).wf = true) (w12 : IsRow .u64 w a1 len1 cap1 z1) :
    Calls Try.prog 3 #[.agg #[.int .i64 a0w0, .int .i64 a0h1, .slice a0 len0 cap0], .agg #[.int .i64 a1w0, .int .i64 a1h1, .slice a1 len1 cap1]] w fun e w' => e = .returned (.bool true) ∧ Below w.heap.size w w' := by
  obtain ⟨l1, l2, l3, l4⟩ := isrow_len w02
  obtain ⟨m1, m2, m3, m4⟩ := isrow_len w12
  have HS0 := Lib.hid (of_slk w02)
  have HS1 := Lib.hid (of_slk w12)
  obtain ⟨XW, XH, XL, xn, xok, xlen, xn2, x5, x6, xg⟩ := good_told a0w0 a0h1 a0 len0 cap0 (z0.take len0) (i64_of w00) (i64_of w01) l1 (of_take w02 len0)
  obtain ⟨YW, YH, YL, yn, yok, ylen, yn2, y5, y6, yg⟩ := good_told a1w0 a1h1 a1 len1 cap1 (z1.take len1) (i64_of w10) (i64_of w11) m1 (of_take w12 len1)
  obtain ⟨UW, UH, UL, un, uok, ulen, un2, u5, u6, ug⟩ := good_told a1w0 a0h1 a1 len1 cap1 (z1.take len1) (i64_of w10) (i64_of w01) m1 (of_take w12 len1)
  obtain ⟨VW, VH, VL, vn, vok, vlen, vn2, v5, v6, vg⟩ := good_told a0w0 a1h1 a1 len1 cap1 (z1.take len1) (i64_of w00) (i64_of w11) m1 (of_take w12 len1)
  have XG := Lib.hid xg; have YG := Lib.hid yg; have UG := Lib.hid ug; have VG := Lib.hid vg
  have XK := Lib.hid (show Rc.Ok XW XH XL ∧ XL.length = xn ∧ XW ≤ 5 ∧ XH ≤ 5 from ⟨xok, xlen, x5, x6⟩)
  have YK := Lib.hid (show Rc.Ok YW YH YL ∧ YL.length = yn ∧ YW ≤ 5 ∧ YH ≤ 5 from ⟨yok, ylen, y5, y6⟩)
  have UK := Lib.hid (show Rc.Ok UW UH UL ∧ UL.length = un ∧ UW ≤ 5 ∧ UH ≤ 5 from ⟨uok, ulen, u5, u6⟩)
  have VK := Lib.hid (show Rc.Ok VW VH VL ∧ VL.length = vn ∧ VW ≤ 5 ∧ VH ≤ 5 from ⟨vok, vlen, v5, v6⟩)
  obtain ⟨t0, t1, tb⟩ := start2 w (.int .i64 a0w0) (.int .i64 a0h1) (.slice a0 len0 cap0) (.int .i64 a1w0) (.int .i64 a1h1) (.slice a1 len1 cap1) 24 24
  have T0 := Lib.hid t0; have T1 := Lib.hid t1; have TB := Lib.hid tb
  clear xg yg ug vg xok xlen x5 x6 yok ylen y5 y6 uok ulen u5 u6 vok vlen v5 v6 t0 t1 tb w00 w01 w02 w10 w11 w12 l1 l2 l3 l4 m1 m2 m3 m4
  go_enter Try.func3, Try.ntmps3
  go_upto_region 1 with fail
  obtain ⟨W0, hW0⟩ : ∃ W0, (w.alloc (.cells #[.int .i64 a0w0, .int .i64 a0h1, .slice a0 len0 cap0] 24)).alloc (.cells #[.int .i64 a1w0, .int .i64 a1h1, .slice a1 len1 cap1] 24) = W0 := ⟨_, rfl⟩
  rw [hW0] at T0 T1 TB ⊢
  obtain ⟨b1, hb1⟩ : ∃ b1, w.heap.size + 1 = b1 := ⟨_, rfl⟩
  obtain ⟨b0, hb0⟩ : ∃ b0, w.heap.size = b0 := ⟨_, rfl⟩
  have HBW := Lib.hid TB.out
  have HZ0 := Lib.hid hb0
  rw [hb1] at T1 ⊢
  rw [hb0] at T0 ⊢
  have P0 := Lib.hid (HS0.out.below HBW.out)
  have P1 := Lib.hid (HS1.out.below HBW.out)
  clear hW0 hb0 hb1 HBW HS0 HS1
  obtain ⟨p0, p1, p2⟩ := T0.out.cells
  obtain ⟨q0, q1, q2⟩ := T1.out.cells
  go_wp2_with fail
  refine (XG.out _ P0.out).mono ?_
  rintro e w1 ⟨xa, xc, rfl, xs, x1, x2, hb⟩
  clear p0 p1 p2 q0 q1 q2
  go_upto_region 2 with fail
  generalize hW : w1.alloc (.cells #[.int .i64 XW, .int .i64 XH, .slice xa xn xc] 24) = W1
  have hn : Sb W1 w1.heap.size 24 (.int .i64 XW) (.int .i64 XH) (.slice xa xn xc) := by rw [← hW]; exact Sb.new _ _ _ _ _
  have hbx : Below W0.heap.size W0 W1 := by rw [← hW]; exact bel_step hb (box1 _ _)
  have XS := Lib.hid (show SlK .u64 W1 xa xn XL by rw [← hW]; exact xs.below (box1 _ _))
  have XC := Lib.hid (show xn ≤ xc ∧ xc ≤ 9223372036854775807 from ⟨x1, x2⟩)
  clear hW
  generalize w1.heap.size = xb at hn ⊢
  have XB := Lib.hid hn
  replace T0 := Lib.hid (T0.out.later hbx); replace T1 := Lib.hid (T1.out.later hbx); replace P0 := Lib.hid (P0.out.below hbx); replace P1 := Lib.hid (P1.out.below hbx)
  replace TB := Lib.hid (bel_step TB.out hbx)
  clear hn hbx hb xs x1 x2 XG
  obtain ⟨p0, p1, p2⟩ := T0.out.cells
  obtain ⟨q0, q1, q2⟩ := T1.out.cells
  go_wp2_with fail
  refine (YG.out _ P1.out).mono ?_
  rintro e w2 ⟨ya, yc, rfl, ys, y1, y2, hb⟩
  clear p0 p1 p2 q0 q1 q2
  go_upto_region 3 with fail
  generalize hW : w2.alloc (.cells #[.int .i64 YW, .int .i64 YH, .slice ya yn yc] 24) = W2
  have hn : Sb W2 w2.heap.size 24 (.int .i64 YW) (.int .i64 YH) (.slice ya yn yc) := by rw [← hW]; exact Sb.new _ _ _ _ _
  have hbx : Below W1.heap.size W1 W2 := by rw [← hW]; exact bel_step hb (box1 _ _)
  have YS := Lib.hid (show SlK .u64 W2 ya yn YL by rw [← hW]; exact ys.below (box1 _ _))
  have YC := Lib.hid (show yn ≤ yc ∧ yc ≤ 9223372036854775807 from ⟨y1, y2⟩)
  clear hW
  generalize w2.heap.size = yb at hn ⊢
  have YB := Lib.hid hn
  replace T0 := Lib.hid (T0.out.later hbx); replace T1 := Lib.hid (T1.out.later hbx); replace P0 := Lib.hid (P0.out.below hbx); replace P1 := Lib.hid (P1.out.below hbx)
  replace TB := Lib.hid (bel_step TB.out hbx)
  replace XS := Lib.hid (XS.out.below hbx); replace XB := Lib.hid (XB.out.later hbx)
  clear hn hbx hb ys y1 y2 YG
  obtain ⟨p0, p1, p2⟩ := T0.out.cells
  obtain ⟨q0, q1, q2⟩ := T1.out.cells
  go_wp2_with fail
  refine (UG.out _ P1.out).mono ?_
  rintro e w3 ⟨ua, uc, rfl, us, u1, u2, hb⟩
  clear p0 p1 p2 q0 q1 q2
  go_upto_region 4 with fail
  generalize hW : w3.alloc (.cells #[.int .i64 UW, .int .i64 UH, .slice ua un uc] 24) = W3
  have hn : Sb W3 w3.heap.size 24 (.int .i64 UW) (.int .i64 UH) (.slice ua un uc) := by rw [← hW]; exact Sb.new _ _ _ _ _
  have hbx : Below W2.heap.size W2 W3 := by rw [← hW]; exact bel_step hb (box1 _ _)
  have US := Lib.hid (show SlK .u64 W3 ua un UL by rw [← hW]; exact us.below (box1 _ _))
  have UC := Lib.hid (show un ≤ uc ∧ uc ≤ 9223372036854775807 from ⟨u1, u2⟩)
  clear hW
  generalize w3.heap.size = ub at hn ⊢
  have UB := Lib.hid hn
  replace T0 := Lib.hid (T0.out.later hbx); replace T1 := Lib.hid (T1.out.later hbx); replace P0 := Lib.hid (P0.out.below hbx); replace P1 := Lib.hid (P1.out.below hbx)
  replace TB := Lib.hid (bel_step TB.out hbx)
  replace XS := Lib.hid (XS.out.below hbx); replace XB := Lib.hid (XB.out.later hbx)
  replace YS := Lib.hid (YS.out.below hbx); replace YB := Lib.hid (YB.out.later hbx)
  clear hn hbx hb us u1 u2 UG
  obtain ⟨p0, p1, p2⟩ := T0.out.cells
  obtain ⟨q0, q1, q2⟩ := T1.out.cells
  go_wp2_with fail
  refine (VG.out _ P1.out).mono ?_
  rintro e w4 ⟨va, vc, rfl, vs, v1, v2, hb⟩
  clear p0 p1 p2 q0 q1 q2
  go_upto_region 5 with fail
  generalize hW : w4.alloc (.cells #[.int .i64 VW, .int .i64 VH, .slice va vn vc] 24) = W4
  have hn : Sb W4 w4.heap.size 24 (.int .i64 VW) (.int .i64 VH) (.slice va vn vc) := by rw [← hW]; exact Sb.new _ _ _ _ _
  have hbx : Below W3.heap.size W3 W4 := by rw [← hW]; exact bel_step hb (box1 _ _)
  have VS := Lib.hid (show SlK .u64 W4 va vn VL by rw [← hW]; exact vs.below (box1 _ _))
  have VC := Lib.hid (show vn ≤ vc ∧ vc ≤ 9223372036854775807 from ⟨v1, v2⟩)
  clear hW
  generalize w4.heap.size = vb at hn ⊢
  have VB := Lib.hid hn
  replace T0 := Lib.hid (T0.out.later hbx); replace T1 := Lib.hid (T1.out.later hbx); replace P0 := Lib.hid (P0.out.below hbx); replace P1 := Lib.hid (P1.out.below hbx)
  replace TB := Lib.hid (bel_step TB.out hbx)
  replace XS := Lib.hid (XS.out.below hbx); replace XB := Lib.hid (XB.out.later hbx)
  replace YS := Lib.hid (YS.out.below hbx); replace YB := Lib.hid (YB.out.later hbx)
  replace US := Lib.hid (US.out.below hbx); replace UB := Lib.hid (UB.out.later hbx)
  clear hn hbx hb vs v1 v2 VG
  clear T0 T1 P0 P1
  obtain ⟨x0, x1, x2⟩ := XB.out.cells
  obtain ⟨y0, y1, y2⟩ := YB.out.cells
  obtain ⟨u0, u1, u2⟩ := UB.out.cells
  obtain ⟨v0, v1, v2⟩ := VB.out.cells
  go_upto_region 6 with fail
  generalize hW : W4.alloc (.cells #[.int .i64 YW, .int .i64 YH, .slice ya yn yc, .int .i64 UW, .int .i64 UH, .slice ua un uc, .int .i64 VW, .int .i64 VH, .slice va vn vc] 24) = W5
  have hn : Nine W5 W4.heap.size (.int .i64 YW) (.int .i64 YH) (.slice ya yn yc) (.int .i64 UW) (.int .i64 UH) (.slice ua un uc) (.int .i64 VW) (.int .i64 VH) (.slice va vn vc) := by rw [← hW]; exact heapNew _ _
  have hbx : Below W4.heap.size W4 W5 := by rw [← hW]; exact box1 _ _
  clear hW x0 x1 x2 y0 y1 y2 u0 u1 u2 v0 v1 v2
  have NB9 := Lib.hid hn
  replace XS := Lib.hid (XS.out.below hbx)
  replace YS := Lib.hid (YS.out.below hbx)
  replace US := Lib.hid (US.out.below hbx)
  replace VS := Lib.hid (VS.out.below hbx)
  replace XB := Lib.hid (XB.out.later hbx)
  replace YB := Lib.hid (YB.out.later hbx)
  replace TB := Lib.hid (bel_step TB.out hbx)
  obtain ⟨ba, hba⟩ : ∃ ba, W4.heap.size = ba := ⟨_, rfl⟩
  rw [hba] at NB9 ⊢
  clear hn hbx hba UB VB
  go_wp2_with fail
  go_loopg [10] 3 (fun g s10 wr => ∃ k : Nat, k + g = 3 ∧ s10 = .int .i64 k ∧ Below W5.heap.size W5 wr)
  case atStart => exact ⟨0, rfl, rfl, Below.refl _ _⟩
  case round =>
    obtain ⟨k, hk, rfl, hBr⟩ := hrel
    have HBR := Lib.hid hBr
    obtain ⟨x0, x1, x2⟩ := (XB.out.later hBr).cells
    cases gk with
    | zero =>
      obtain rfl : k = 3 := by omega
      clear hBr
      go_wp2_with fail
      refine (of_any _ _ _ _ _ _).mono ?_
      rintro e w7 ⟨rfl, hb7⟩
      have KB7 := Lib.hid (bel_step HBR.out hb7)
      clear hb7 x0 x1 x2
      go_wp2_with fail
      refine (beside_none _ _ _ _ _ _).mono ?_
      rintro e w8 ⟨rfl, hb8⟩
      have KB8 := Lib.hid (bel_step KB7.out hb8)
      clear hb8 KB7
      go_upto_region 20 with fail
      generalize hW : w8.alloc (.cells #[.int .i64 0, .int .i64 0, .slice none 0 0] 27) = W9
      have KB9 := Lib.hid (show Below W5.heap.size W5 W9 by rw [← hW]; exact bel_step KB8.out (box1 _ _))
      clear hW KB8 HBR
      obtain ⟨x0, x1, x2⟩ := (XB.out.later KB9.out).cells
      obtain ⟨y0, y1, y2⟩ := (YB.out.later KB9.out).cells
      have XS9 := Lib.hid (XS.out.below KB9.out)
      have YS9 := Lib.hid (YS.out.below KB9.out)
      obtain ⟨d, hd⟩ : ∃ d, (decide (XW = YW) && (decide (XH = YH) && decide (XL = YL))) = d := ⟨_, rfl⟩
      have hdd : (d == d) = true := by simp
      have C1 := Lib.hid (fun W2 (h1 : SlK .u64 W2 xa xn XL) => same_any XW XH XW XH xa xa xn xn xc xc XL XL W2 (by omega) h1 h1)
      have C2 := Lib.hid (fun W2 (h1 : SlK .u64 W2 xa xn XL) (h2 : SlK .u64 W2 ya yn YL) => same_any XW XH YW YH xa ya xn yn xc yc XL YL W2 (by omega) h1 h2)
      have C3 := Lib.hid (fun W2 (h1 : SlK .u64 W2 xa xn XL) (h2 : SlK .u64 W2 ya yn YL) => refSame_any XW XH YW YH xa ya xn yn xc yc XL YL W2 (by omega) h1 h2)
      rw [show (decide (XW = XW) && (decide (XH = XH) && decide (XL = XL))) = true by simp] at C1
      rw [hd] at C2 C3
      have hBt := Below.refl W9.heap.size W9
      clear hd XS YS US VS XK YK UK VK XC YC UC VC NB9
      go_region_held3 (fun w' => w'.cell? ⟨xb, 0, none⟩ = some (.int .i64 XW) ∧ w'.cell? ⟨xb, 1, none⟩ = some (.int .i64 XH) ∧ w'.cell? ⟨xb, 2, none⟩ = some (.slice xa xn xc) ∧ w'.cell? ⟨yb, 0, none⟩ = some (.int .i64 YW) ∧ w'.cell? ⟨yb, 1, none⟩ = some (.int .i64 YH) ∧ w'.cell? ⟨yb, 2, none⟩ = some (.slice ya yn yc))
        (first | exact ⟨x0, x1, x2, y0, y1, y2⟩ | exact ⟨cell_later (by repeat' (first | (with_reducible exact hBt) | (with_reducible refine Below.alloc ?_ ?_ _) | (with_reducible refine Below.drew ?_) | (with_reducible refine below_drewN ?_ _) | (with_reducible refine Below.setCell ?_ ?_ _) | exact hBt.size | (have := hBt.size; first | omega | (simp; done) | (simp; omega)))) x0, cell_later (by repeat' (first | (with_reducible exact hBt) | (with_reducible refine Below.alloc ?_ ?_ _) | (with_reducible refine Below.drew ?_) | (with_reducible refine below_drewN ?_ _) | (with_reducible refine Below.setCell ?_ ?_ _) | exact hBt.size | (have := hBt.size; first | omega | (simp; done) | (simp; omega)))) x1, cell_later (by repeat' (first | (with_reducible exact hBt) | (with_reducible refine Below.alloc ?_ ?_ _) | (with_reducible refine Below.drew ?_) | (with_reducible refine below_drewN ?_ _) | (with_reducible refine Below.setCell ?_ ?_ _) | exact hBt.size | (have := hBt.size; first | omega | (simp; done) | (simp; omega)))) x2, cell_later (by repeat' (first | (with_reducible exact hBt) | (with_reducible refine Below.alloc ?_ ?_ _) | (with_reducible refine Below.drew ?_) | (with_reducible refine below_drewN ?_ _) | (with_reducible refine Below.setCell ?_ ?_ _) | exact hBt.size | (have := hBt.size; first | omega | (simp; done) | (simp; omega)))) y0, cell_later (by repeat' (first | (with_reducible exact hBt) | (with_reducible refine Below.alloc ?_ ?_ _) | (with_reducible refine Below.drew ?_) | (with_reducible refine below_drewN ?_ _) | (with_reducible refine Below.setCell ?_ ?_ _) | exact hBt.size | (have := hBt.size; first | omega | (simp; done) | (simp; omega)))) y1, cell_later (by repeat' (first | (with_reducible exact hBt) | (with_reducible refine Below.alloc ?_ ?_ _) | (with_reducible refine Below.drew ?_) | (with_reducible refine below_drewN ?_ _) | (with_reducible refine Below.setCell ?_ ?_ _) | exact hBt.size | (have := hBt.size; first | omega | (simp; done) | (simp; omega)))) y2⟩)
        (first
          | (go_at_call 15; refine (of_any _ _ _ _ _ _).mono ?_; rintro e w9 ⟨rfl, hb9⟩; replace hBt := bel_step (w := W9) (by repeat' (first | (with_reducible exact hBt) | (with_reducible refine Below.alloc ?_ ?_ _) | (with_reducible refine Below.drew ?_) | (with_reducible refine below_drewN ?_ _) | (with_reducible refine Below.setCell ?_ ?_ _) | exact hBt.size | (have := hBt.size; first | omega | (simp; done) | (simp; omega)))) hb9; have hsz9 := hBt.size)
          | (go_at_call 22; with_reducible show Calls _ _ #[.agg #[.int .i64 XW, .int .i64 XH, .slice xa xn xc], .agg #[.int .i64 XW, .int .i64 XH, .slice xa xn xc]] _ _; refine (C1.out _ (XS9.out.below (by repeat' (first | (with_reducible exact hBt) | (with_reducible refine Below.alloc ?_ ?_ _) | (with_reducible refine Below.drew ?_) | (with_reducible refine below_drewN ?_ _) | (with_reducible refine Below.setCell ?_ ?_ _) | exact hBt.size | (have := hBt.size; first | omega | (simp; done) | (simp; omega)))))).mono ?_; rintro e w9 ⟨rfl, hb9⟩; replace hBt := bel_step (w := W9) (by repeat' (first | (with_reducible exact hBt) | (with_reducible refine Below.alloc ?_ ?_ _) | (with_reducible refine Below.drew ?_) | (with_reducible refine below_drewN ?_ _) | (with_reducible refine Below.setCell ?_ ?_ _) | exact hBt.size | (have := hBt.size; first | omega | (simp; done) | (simp; omega)))) hb9; have hsz9 := hBt.size)
          | (go_at_call 22; refine (C2.out _ (XS9.out.below (by repeat' (first | (with_reducible exact hBt) | (with_reducible refine Below.alloc ?_ ?_ _) | (with_reducible refine Below.drew ?_) | (with_reducible refine below_drewN ?_ _) | (with_reducible refine Below.setCell ?_ ?_ _) | exact hBt.size | (have := hBt.size; first | omega | (simp; done) | (simp; omega))))) (YS9.out.below (by repeat' (first | (with_reducible exact hBt) | (with_reducible refine Below.alloc ?_ ?_ _) | (with_reducible refine Below.drew ?_) | (with_reducible refine below_drewN ?_ _) | (with_reducible refine Below.setCell ?_ ?_ _) | exact hBt.size | (have := hBt.size; first | omega | (simp; done) | (simp; omega)))))).mono ?_; rintro e w9 ⟨rfl, hb9⟩; replace hBt := bel_step (w := W9) (by repeat' (first | (with_reducible exact hBt) | (with_reducible refine Below.alloc ?_ ?_ _) | (with_reducible refine Below.drew ?_) | (with_reducible refine below_drewN ?_ _) | (with_reducible refine Below.setCell ?_ ?_ _) | exact hBt.size | (have := hBt.size; first | omega | (simp; done) | (simp; omega)))) hb9; have hsz9 := hBt.size)
          | (go_at_call 19; refine (C3.out _ (XS9.out.below (by repeat' (first | (with_reducible exact hBt) | (with_reducible refine Below.alloc ?_ ?_ _) | (with_reducible refine Below.drew ?_) | (with_reducible refine below_drewN ?_ _) | (with_reducible refine Below.setCell ?_ ?_ _) | exact hBt.size | (have := hBt.size; first | omega | (simp; done) | (simp; omega))))) (YS9.out.below (by repeat' (first | (with_reducible exact hBt) | (with_reducible refine Below.alloc ?_ ?_ _) | (with_reducible refine Below.drew ?_) | (with_reducible refine below_drewN ?_ _) | (with_reducible refine Below.setCell ?_ ?_ _) | exact hBt.size | (have := hBt.size; first | omega | (simp; done) | (simp; omega)))))).mono ?_; rintro e w9 ⟨rfl, hb9⟩; replace hBt := bel_step (w := W9) (by repeat' (first | (with_reducible exact hBt) | (with_reducible refine Below.alloc ?_ ?_ _) | (with_reducible refine Below.drew ?_) | (with_reducible refine below_drewN ?_ _) | (with_reducible refine Below.setCell ?_ ?_ _) | exact hBt.size | (have := hBt.size; first | omega | (simp; done) | (simp; omega)))) hb9; have hsz9 := hBt.size)
          | (go_at_call 23; refine (lives_any _).mono ?_; rintro e w9 ⟨rfl, hb9⟩; replace hBt := bel_step (w := W9) (by repeat' (first | (with_reducible exact hBt) | (with_reducible refine Below.alloc ?_ ?_ _) | (with_reducible refine Below.drew ?_) | (with_reducible refine below_drewN ?_ _) | (with_reducible refine Below.setCell ?_ ?_ _) | exact hBt.size | (have := hBt.size; first | omega | (simp; done) | (simp; omega)))) hb9; have hsz9 := hBt.size))
      all_goals
        go_wp2_with fail
        go_ret
        have hz := HZ0.out
        exact ⟨rfl, bel_step TB.out (bel_step KB9.out hBt)⟩
    | succ g =>
      have i0 : (0 : Int) ≤ (k : Int) := Int.natCast_nonneg _
      have i1 : (k : Int) < 3 := by omega
      obtain ⟨MW, MH, ma, mn, mc, ML, g0, g1, g2, hok, hlen, hms, hm1, hm2, hm5, hm6⟩ : ∃ MW MH ma mn mc ML, wr.cell? ⟨ba, k * 3, none⟩ = some (.int .i64 MW) ∧ wr.cell? ⟨ba, k * 3 + 1, none⟩ = some (.int .i64 MH) ∧ wr.cell? ⟨ba, k * 3 + 2, none⟩ = some (.slice ma mn mc) ∧ Rc.Ok MW MH ML ∧ List.length ML = mn ∧ SlK .u64 wr ma mn ML ∧ mn ≤ mc ∧ mc ≤ 9223372036854775807 ∧ MW ≤ 5 ∧ MH ≤ 5 := by
        have h8 := NB9.out.later hBr
        unfold Nine at h8
        have : k = 0 ∨ k = 1 ∨ k = 2 := by omega
        rcases this with rfl | rfl | rfl
        · exact ⟨YW, YH, ya, yn, yc, YL, by simp [World.cell?, h8], by simp [World.cell?, h8], by simp [World.cell?, h8], YK.out.1, YK.out.2.1, YS.out.below hBr, YC.out.1, YC.out.2, YK.out.2.2.1, YK.out.2.2.2⟩
        · exact ⟨UW, UH, ua, un, uc, UL, by simp [World.cell?, h8], by simp [World.cell?, h8], by simp [World.cell?, h8], UK.out.1, UK.out.2.1, US.out.below hBr, UC.out.1, UC.out.2, UK.out.2.2.1, UK.out.2.2.2⟩
        · exact ⟨VW, VH, va, vn, vc, VL, by simp [World.cell?, h8], by simp [World.cell?, h8], by simp [World.cell?, h8], VK.out.1, VK.out.2.1, VS.out.below hBr, VC.out.1, VC.out.2, VK.out.2.2.1, VK.out.2.2.2⟩
      obtain ⟨p1, p2, p4, np, P, hJ⟩ := bes_told XW XH MW MH xa ma xn mn xc mc XL ML XK.out.1 hok XK.out.2.1 hlen XK.out.2.2.1 XK.out.2.2.2 hm5 hm6 XC.out.1 XC.out.2 hm1 hm2
      obtain ⟨r1, r2, r4, nr, L, hK⟩ := abo_told XW XH MW MH xa ma xn mn xc mc XL ML XK.out.1 hok XK.out.2.1 hlen XK.out.2.2.1 XK.out.2.2.2 hm5 hm6 XC.out.1 XC.out.2 hm1 hm2
      have HJ := Lib.hid hJ
      have HK := Lib.hid hK
      have RX := Lib.hid (XS.out.below hBr)
      have RM := Lib.hid hms
      have hBt := Below.refl wr.heap.size wr
      have hq : JQ wr xb ba k XW XH MW MH xa ma xn xc mn mc XL ML wr := ⟨x0, x1, x2, g0, g1, g2, XS.out.below hBr, hms, .refl _ _⟩
      have HQ := Lib.hid hq
      have HPN := Lib.hid HJ.out.2.2.1
      have HRN := Lib.hid HK.out.2.2.1
      clear hJ hK hok hlen hms hm1 hm2 hm5 hm6 hBr RX RM
      go_wp2_with fail
      go_cut [11, 12] (fun s11 s12 wx => ∃ b a c, s11 = .pointer (some ⟨b, 0, none⟩) ∧ s12 = .int .i64 p4 ∧ Sb wx b 27 (.int .i64 p1) (.int .i64 p2) (.slice a np c) ∧ SlK .u64 wx a np P ∧ np ≤ c ∧ c ≤ 9223372036854775807 ∧ Below wr.heap.size wr wx)
      case first =>
        go_region_held3 (fun w' => w'.cell? ⟨xb, 0, none⟩ = some (.int .i64 XW) ∧ w'.cell? ⟨xb, 1, none⟩ = some (.int .i64 XH) ∧ w'.cell? ⟨xb, 2, none⟩ = some (.slice xa xn xc) ∧ w'.cell? ⟨ba, k * 3, none⟩ = some (.int .i64 MW) ∧ w'.cell? ⟨ba, k * 3 + 1, none⟩ = some (.int .i64 MH) ∧ w'.cell? ⟨ba, k * 3 + 2, none⟩ = some (.slice ma mn mc) ∧ JQ wr xb ba k XW XH MW MH xa ma xn xc mn mc XL ML w')
          (first | (with_reducible exact JQ.all hq) | (with_reducible exact JQ.all hq.drew) | (with_reducible exact JQ.all (hq.more _)) | (with_reducible exact JQ.all (hq.drew.more _)) | (go_split_ands; with_reducible exact JQ.all (‹JQ wr xb ba k XW XH MW MH xa ma xn xc mn mc XL ML _›)) | (go_split_ands; with_reducible exact JQ.all (JQ.drew (‹JQ wr xb ba k XW XH MW MH xa ma xn xc mn mc XL ML _›))) | (go_split_ands; with_reducible exact JQ.all (JQ.more (‹JQ wr xb ba k XW XH MW MH xa ma xn xc mn mc XL ML _›) _)) | exact JQ.all (hq.later (by repeat' (first | (with_reducible exact hBt) | (with_reducible refine Below.alloc ?_ ?_ _) | (with_reducible refine Below.drew ?_) | (with_reducible refine below_drewN ?_ _) | (with_reducible refine Below.setCell ?_ ?_ _) | exact hBt.size | (have := hBt.size; first | omega | (simp; done) | (simp; omega))))))
          (first
            | (go_at_call 15; go_split_ands; refine (JQ.of (by assumption) _ _ _ _ _).mono ?_; rintro e w9 ⟨rfl, hq9, hb9⟩; (try (have hnl9 := hNB.lt)); (try replace hNB := hNB.later hb9); (try (first | (with_reducible have hNB := Sb.later (Sb.new _ _ _ _ _) hb9) | (with_reducible have hNB := Sb.later (Sb.drew (Sb.new _ _ _ _ _)) hb9))); (try simp only [World.size_drew, size_drewN'] at hNB); (try (obtain ⟨z0, z1, z2⟩ := hNB.cells)); (try (obtain ⟨y0, y1, y2⟩ := hNB.fr)); have hsz9 := hq9.bel.size)
            | (go_at_call 14; go_split_ands; refine (JQ.code (by assumption) HJ.out).mono ?_; rintro e w9 ⟨pa, pc, rfl, ps, pl, p9, hq9, hb9⟩; (try (have hnl9 := hNB.lt)); (try replace hNB := hNB.later hb9); (try (first | (with_reducible have hNB := Sb.later (Sb.new _ _ _ _ _) hb9) | (with_reducible have hNB := Sb.later (Sb.drew (Sb.new _ _ _ _ _)) hb9))); (try simp only [World.size_drew, size_drewN'] at hNB); (try (obtain ⟨z0, z1, z2⟩ := hNB.cells)); (try (obtain ⟨y0, y1, y2⟩ := hNB.fr)); have hBt := hq9.bel; have hsz9 := hBt.size))
        all_goals
          go_wp2_with fail
          go_meet
          case rel =>
            refine ⟨_, pa, pc, rfl, rfl, ?_, ?_, pl, p9, ?_⟩
            · first
                | (with_reducible exact Sb.new _ _ _ _ _)
                | (with_reducible exact hNB.put _ _ _)
            · first
                | (with_reducible exact slk_more ps HPN.out _)
                | (with_reducible refine slk_put ps HPN.out ?_ _ _ _); first | omega | (simp; done) | (simp; omega)
            · exact (by repeat' (first | (with_reducible exact hBt) | (with_reducible refine Below.alloc ?_ ?_ _) | (with_reducible refine Below.drew ?_) | (with_reducible refine below_drewN ?_ _) | (with_reducible refine Below.setCell ?_ ?_ _) | exact hBt.size | (have := hBt.size; first | omega | (simp; done) | (simp; omega))))
      case rest =>
        obtain ⟨pb, pa, pc, rfl, rfl, h1, h2, h3, h4, hbx⟩ := hcut
        have PB := Lib.hid h1; have PS := Lib.hid h2
        have PC := Lib.hid (show np ≤ pc ∧ pc ≤ 9223372036854775807 from ⟨h3, h4⟩)
        replace HBR := Lib.hid (bel_step HBR.out hbx)
        have hq := (HQ.out.later hbx).start
        replace HQ := Lib.hid hq
        obtain ⟨x0, x1, x2, g0, g1, g2, -⟩ := hq.all
        have hBt := Below.refl wc.heap.size wc
        clear h1 h2 h3 h4 hbx
        go_wp2_with fail
        go_cut [13, 14] (fun s11 s12 wx => ∃ b a c, s11 = .pointer (some ⟨b, 0, none⟩) ∧ s12 = .int .i64 p4 ∧ Sb wx b 24 (.int .i64 p1) (.int .i64 p2) (.slice a np c) ∧ SlK .u64 wx a np P ∧ np ≤ c ∧ c ≤ 9223372036854775807 ∧ Below wc.heap.size wc wx)
        case first =>
          go_region_held3 (fun w' => w'.cell? ⟨xb, 0, none⟩ = some (.int .i64 XW) ∧ w'.cell? ⟨xb, 1, none⟩ = some (.int .i64 XH) ∧ w'.cell? ⟨xb, 2, none⟩ = some (.slice xa xn xc) ∧ w'.cell? ⟨ba, k * 3, none⟩ = some (.int .i64 MW) ∧ w'.cell? ⟨ba, k * 3 + 1, none⟩ = some (.int .i64 MH) ∧ w'.cell? ⟨ba, k * 3 + 2, none⟩ = some (.slice ma mn mc) ∧ JQ wc xb ba k XW XH MW MH xa ma xn xc mn mc XL ML w')
            (first | (with_reducible exact JQ.all hq) | (with_reducible exact JQ.all hq.drew) | (with_reducible exact JQ.all (hq.more _)) | (with_reducible exact JQ.all (hq.drew.more _)) | (go_split_ands; with_reducible exact JQ.all (‹JQ wc xb ba k XW XH MW MH xa ma xn xc mn mc XL ML _›)) | (go_split_ands; with_reducible exact JQ.all (JQ.drew (‹JQ wc xb ba k XW XH MW MH xa ma xn xc mn mc XL ML _›))) | (go_split_ands; with_reducible exact JQ.all (JQ.more (‹JQ wc xb ba k XW XH MW MH xa ma xn xc mn mc XL ML _›) _)) | exact JQ.all (hq.later (by repeat' (first | (with_reducible exact hBt) | (with_reducible refine Below.alloc ?_ ?_ _) | (with_reducible refine Below.drew ?_) | (with_reducible refine below_drewN ?_ _) | (with_reducible refine Below.setCell ?_ ?_ _) | exact hBt.size | (have := hBt.size; first | omega | (simp; done) | (simp; omega))))))
            (first
              | (go_at_call 16; go_split_ands; refine (JQ.ref (by assumption) HJ.out).mono ?_; rintro e w9 ⟨pa, pc, rfl, ps, pl, p9, hq9, hb9⟩; (try (have hnl9 := hNB.lt)); (try replace hNB := hNB.later hb9); (try (first | (with_reducible have hNB := Sb.later (Sb.new _ _ _ _ _) hb9) | (with_reducible have hNB := Sb.later (Sb.drew (Sb.new _ _ _ _ _)) hb9))); (try simp only [World.size_drew, size_drewN'] at hNB); (try (obtain ⟨z0, z1, z2⟩ := hNB.cells)); (try (obtain ⟨y0, y1, y2⟩ := hNB.fr)); have hBt := hq9.bel; have hsz9 := hBt.size))
          all_goals
            go_wp2_with fail
            go_meet
            case rel =>
              refine ⟨_, pa, pc, rfl, rfl, ?_, ?_, pl, p9, ?_⟩
              · first
                  | (with_reducible exact Sb.new _ _ _ _ _)
                  | (with_reducible exact hNB.put _ _ _)
              · first
                  | (with_reducible exact slk_more ps HPN.out _)
                  | (with_reducible refine slk_put ps HPN.out ?_ _ _ _); first | omega | (simp; done) | (simp; omega)
              · exact (by repeat' (first | (with_reducible exact hBt) | (with_reducible refine Below.alloc ?_ ?_ _) | (with_reducible refine Below.drew ?_) | (with_reducible refine below_drewN ?_ _) | (with_reducible refine Below.setCell ?_ ?_ _) | exact hBt.size | (have := hBt.size; first | omega | (simp; done) | (simp; omega))))
        case rest =>
          obtain ⟨qb, qa, qc, rfl, rfl, h1, h2, h3, h4, hbx⟩ := hcut
          have QB := Lib.hid h1; have QS := Lib.hid h2
          have QC := Lib.hid (show np ≤ qc ∧ qc ≤ 9223372036854775807 from ⟨h3, h4⟩)
          replace PB := Lib.hid (PB.out.later hbx); replace PS := Lib.hid (PS.out.below hbx)
          replace HBR := Lib.hid (bel_step HBR.out hbx)
          have hq := (HQ.out.later hbx).start
          replace HQ := Lib.hid hq
          obtain ⟨x0, x1, x2, g0, g1, g2, -⟩ := hq.all
          have hBt := Below.refl wc.heap.size wc
          clear h1 h2 h3 h4 hbx
          go_wp2_with fail
          go_cut [15, 16] (fun s11 s12 wx => ∃ b a c, s11 = .pointer (some ⟨b, 0, none⟩) ∧ s12 = .int .i64 r4 ∧ Sb wx b 27 (.int .i64 r1) (.int .i64 r2) (.slice a nr c) ∧ SlK .u64 wx a nr L ∧ nr ≤ c ∧ c ≤ 9223372036854775807 ∧ Below wc.heap.size wc wx)
          case first =>
            go_region_held3 (fun w' => w'.cell? ⟨xb, 0, none⟩ = some (.int .i64 XW) ∧ w'.cell? ⟨xb, 1, none⟩ = some (.int .i64 XH) ∧ w'.cell? ⟨xb, 2, none⟩ = some (.slice xa xn xc) ∧ w'.cell? ⟨ba, k * 3, none⟩ = some (.int .i64 MW) ∧ w'.cell? ⟨ba, k * 3 + 1, none⟩ = some (.int .i64 MH) ∧ w'.cell? ⟨ba, k * 3 + 2, none⟩ = some (.slice ma mn mc) ∧ JQ wc xb ba k XW XH MW MH xa ma xn xc mn mc XL ML w')
              (first | (with_reducible exact JQ.all hq) | (with_reducible exact JQ.all hq.drew) | (with_reducible exact JQ.all (hq.more _)) | (with_reducible exact JQ.all (hq.drew.more _)) | (go_split_ands; with_reducible exact JQ.all (‹JQ wc xb ba k XW XH MW MH xa ma xn xc mn mc XL ML _›)) | (go_split_ands; with_reducible exact JQ.all (JQ.drew (‹JQ wc xb ba k XW XH MW MH xa ma xn xc mn mc XL ML _›))) | (go_split_ands; with_reducible exact JQ.all (JQ.more (‹JQ wc xb ba k XW XH MW MH xa ma xn xc mn mc XL ML _›) _)) | exact JQ.all (hq.later (by repeat' (first | (with_reducible exact hBt) | (with_reducible refine Below.alloc ?_ ?_ _) | (with_reducible refine Below.drew ?_) | (with_reducible refine below_drewN ?_ _) | (with_reducible refine Below.setCell ?_ ?_ _) | exact hBt.size | (have := hBt.size; first | omega | (simp; done) | (simp; omega))))))
              (first
                | (go_at_call 15; go_split_ands; refine (JQ.of (by assumption) _ _ _ _ _).mono ?_; rintro e w9 ⟨rfl, hq9, hb9⟩; (try (have hnl9 := hNB.lt)); (try replace hNB := hNB.later hb9); (try (first | (with_reducible have hNB := Sb.later (Sb.new _ _ _ _ _) hb9) | (with_reducible have hNB := Sb.later (Sb.drew (Sb.new _ _ _ _ _)) hb9))); (try simp only [World.size_drew, size_drewN'] at hNB); (try (obtain ⟨z0, z1, z2⟩ := hNB.cells)); (try (obtain ⟨y0, y1, y2⟩ := hNB.fr)); have hsz9 := hq9.bel.size)
                | (go_at_call 17; go_split_ands; refine (JQ.code (by assumption) HK.out).mono ?_; rintro e w9 ⟨pa, pc, rfl, ps, pl, p9, hq9, hb9⟩; (try (have hnl9 := hNB.lt)); (try replace hNB := hNB.later hb9); (try (first | (with_reducible have hNB := Sb.later (Sb.new _ _ _ _ _) hb9) | (with_reducible have hNB := Sb.later (Sb.drew (Sb.new _ _ _ _ _)) hb9))); (try simp only [World.size_drew, size_drewN'] at hNB); (try (obtain ⟨z0, z1, z2⟩ := hNB.cells)); (try (obtain ⟨y0, y1, y2⟩ := hNB.fr)); have hBt := hq9.bel; have hsz9 := hBt.size))
            all_goals
              go_wp2_with fail
              go_meet
              case rel =>
                refine ⟨_, pa, pc, rfl, rfl, ?_, ?_, pl, p9, ?_⟩
                · first
                    | (with_reducible exact Sb.new _ _ _ _ _)
                    | (with_reducible exact hNB.put _ _ _)
                · first
                    | (with_reducible exact slk_more ps HRN.out _)
                    | (with_reducible refine slk_put ps HRN.out ?_ _ _ _); first | omega | (simp; done) | (simp; omega)
                · exact (by repeat' (first | (with_reducible exact hBt) | (with_reducible refine Below.alloc ?_ ?_ _) | (with_reducible refine Below.drew ?_) | (with_reducible refine below_drewN ?_ _) | (with_reducible refine Below.setCell ?_ ?_ _) | exact hBt.size | (have := hBt.size; first | omega | (simp; done) | (simp; omega))))
          case rest =>
            obtain ⟨rb, ra, rc, rfl, rfl, h1, h2, h3, h4, hbx⟩ := hcut
            have RB := Lib.hid h1; have RS := Lib.hid h2
            have RC := Lib.hid (show nr ≤ rc ∧ rc ≤ 9223372036854775807 from ⟨h3, h4⟩)
            replace PB := Lib.hid (PB.out.later hbx); replace PS := Lib.hid (PS.out.below hbx)
            replace QB := Lib.hid (QB.out.later hbx); replace QS := Lib.hid (QS.out.below hbx)
            replace HBR := Lib.hid (bel_step HBR.out hbx)
            have hq := (HQ.out.later hbx).start
            replace HQ := Lib.hid hq
            obtain ⟨x0, x1, x2, g0, g1, g2, -⟩ := hq.all
            have hBt := Below.refl wc.heap.size wc
            clear h1 h2 h3 h4 hbx
            go_wp2_with fail
            go_cut [17, 18] (fun s11 s12 wx => ∃ b a c, s11 = .pointer (some ⟨b, 0, none⟩) ∧ s12 = .int .i64 r4 ∧ Sb wx b 24 (.int .i64 r1) (.int .i64 r2) (.slice a nr c) ∧ SlK .u64 wx a nr L ∧ nr ≤ c ∧ c ≤ 9223372036854775807 ∧ Below wc.heap.size wc wx)
            case first =>
              go_region_held3 (fun w' => w'.cell? ⟨xb, 0, none⟩ = some (.int .i64 XW) ∧ w'.cell? ⟨xb, 1, none⟩ = some (.int .i64 XH) ∧ w'.cell? ⟨xb, 2, none⟩ = some (.slice xa xn xc) ∧ w'.cell? ⟨ba, k * 3, none⟩ = some (.int .i64 MW) ∧ w'.cell? ⟨ba, k * 3 + 1, none⟩ = some (.int .i64 MH) ∧ w'.cell? ⟨ba, k * 3 + 2, none⟩ = some (.slice ma mn mc) ∧ JQ wc xb ba k XW XH MW MH xa ma xn xc mn mc XL ML w')
                (first | (with_reducible exact JQ.all hq) | (with_reducible exact JQ.all hq.drew) | (with_reducible exact JQ.all (hq.more _)) | (with_reducible exact JQ.all (hq.drew.more _)) | (go_split_ands; with_reducible exact JQ.all (‹JQ wc xb ba k XW XH MW MH xa ma xn xc mn mc XL ML _›)) | (go_split_ands; with_reducible exact JQ.all (JQ.drew (‹JQ wc xb ba k XW XH MW MH xa ma xn xc mn mc XL ML _›))) | (go_split_ands; with_reducible exact JQ.all (JQ.more (‹JQ wc xb ba k XW XH MW MH xa ma xn xc mn mc XL ML _›) _)) | exact JQ.all (hq.later (by repeat' (first | (with_reducible exact hBt) | (with_reducible refine Below.alloc ?_ ?_ _) | (with_reducible refine Below.drew ?_) | (with_reducible refine below_drewN ?_ _) | (with_reducible refine Below.setCell ?_ ?_ _) | exact hBt.size | (have := hBt.size; first | omega | (simp; done) | (simp; omega))))))
                (first
                  | (go_at_call 18; go_split_ands; refine (JQ.ref (by assumption) HK.out).mono ?_; rintro e w9 ⟨pa, pc, rfl, ps, pl, p9, hq9, hb9⟩; (try (have hnl9 := hNB.lt)); (try replace hNB := hNB.later hb9); (try (first | (with_reducible have hNB := Sb.later (Sb.new _ _ _ _ _) hb9) | (with_reducible have hNB := Sb.later (Sb.drew (Sb.new _ _ _ _ _)) hb9))); (try simp only [World.size_drew, size_drewN'] at hNB); (try (obtain ⟨z0, z1, z2⟩ := hNB.cells)); (try (obtain ⟨y0, y1, y2⟩ := hNB.fr)); have hBt := hq9.bel; have hsz9 := hBt.size))
              all_goals
                go_wp2_with fail
                go_meet
                case rel =>
                  refine ⟨_, pa, pc, rfl, rfl, ?_, ?_, pl, p9, ?_⟩
                  · first
                      | (with_reducible exact Sb.new _ _ _ _ _)
                      | (with_reducible exact hNB.put _ _ _)
                  · first
                      | (with_reducible exact slk_more ps HRN.out _)
                      | (with_reducible refine slk_put ps HRN.out ?_ _ _ _); first | omega | (simp; done) | (simp; omega)
                  · exact (by repeat' (first | (with_reducible exact hBt) | (with_reducible refine Below.alloc ?_ ?_ _) | (with_reducible refine Below.drew ?_) | (with_reducible refine below_drewN ?_ _) | (with_reducible refine Below.setCell ?_ ?_ _) | exact hBt.size | (have := hBt.size; first | omega | (simp; done) | (simp; omega))))
            case rest =>
              obtain ⟨sb, sa, sc, rfl, rfl, h1, h2, h3, h4, hbx⟩ := hcut
              have SB := Lib.hid h1; have SS := Lib.hid h2
              have SC := Lib.hid (show nr ≤ sc ∧ sc ≤ 9223372036854775807 from ⟨h3, h4⟩)
              replace PB := Lib.hid (PB.out.later hbx); replace PS := Lib.hid (PS.out.below hbx)
              replace QB := Lib.hid (QB.out.later hbx); replace QS := Lib.hid (QS.out.below hbx)
              replace RB := Lib.hid (RB.out.later hbx); replace RS := Lib.hid (RS.out.below hbx)
              replace HBR := Lib.hid (bel_step HBR.out hbx)
              have hq := (HQ.out.later hbx).start
              replace HQ := Lib.hid hq
              obtain ⟨x0, x1, x2, g0, g1, g2, -⟩ := hq.all
              have hBt := Below.refl wc.heap.size wc
              clear h1 h2 h3 h4 hbx
              have hr : JR wc xb ba k XW XH MW MH xa ma xn xc mn mc XL ML pb qb rb sb p1 p2 r1 r2 np nr pa qa ra sa pc qc rc sc P L wc := ⟨PB.out, QB.out, RB.out, SB.out, PS.out, QS.out, RS.out, SS.out, PC.out, RC.out, HQ.out⟩
              have HE := Lib.hid HJ.out.2.2.2.2.1
              have HG := Lib.hid HK.out.2.2.2.2.1
              have HH1 := Lib.hid HJ.out.2.2.2.2.2
              have HH2 := Lib.hid HK.out.2.2.2.2.2
              obtain ⟨o0, o1, o2, o3, o4, o5, o6, o7, o8, o9, o10, o11, -⟩ := hr.all13
              have hn1 : (p4 != p4) = false := by simp
              have hn2 : (r4 != r4) = false := by simp
              clear x0 x1 x2 g0 g1 g2 hq hBt PB QB RB SB PS QS RS SS PC QC RC SC HQ HJ HK XK YK UK VK XS YS US VS NB9 XC YC UC VC HPN HRN
              go_wp2_with fail
              go_cut [110] from 89 to 110 (fun sx wx => sx = .bool false ∧ JR wc xb ba k XW XH MW MH xa ma xn xc mn mc XL ML pb qb rb sb p1 p2 r1 r2 np nr pa qa ra sa pc qc rc sc P L wx)
              case first =>
                go_region_held3 (fun w' => w'.cell? ⟨pb, 0, none⟩ = some (.int .i64 p1) ∧ w'.cell? ⟨pb, 1, none⟩ = some (.int .i64 p2) ∧ w'.cell? ⟨pb, 2, none⟩ = some (.slice pa np pc) ∧ w'.cell? ⟨qb, 0, none⟩ = some (.int .i64 p1) ∧ w'.cell? ⟨qb, 1, none⟩ = some (.int .i64 p2) ∧ w'.cell? ⟨qb, 2, none⟩ = some (.slice qa np qc) ∧ w'.cell? ⟨rb, 0, none⟩ = some (.int .i64 r1) ∧ w'.cell? ⟨rb, 1, none⟩ = some (.int .i64 r2) ∧ w'.cell? ⟨rb, 2, none⟩ = some (.slice ra nr rc) ∧ w'.cell? ⟨sb, 0, none⟩ = some (.int .i64 r1) ∧ w'.cell? ⟨sb, 1, none⟩ = some (.int .i64 r2) ∧ w'.cell? ⟨sb, 2, none⟩ = some (.slice sa nr sc) ∧ JR wc xb ba k XW XH MW MH xa ma xn xc mn mc XL ML pb qb rb sb p1 p2 r1 r2 np nr pa qa ra sa pc qc rc sc P L w')
                  (first | (with_reducible exact JR.all13 hr) | (with_reducible exact JR.all13 hr.drew) | (go_split_ands; with_reducible exact JR.all13 (‹JR wc xb ba k XW XH MW MH xa ma xn xc mn mc XL ML pb qb rb sb p1 p2 r1 r2 np nr pa qa ra sa pc qc rc sc P L _›)) | (go_split_ands; with_reducible exact JR.all13 (JR.drew (‹JR wc xb ba k XW XH MW MH xa ma xn xc mn mc XL ML pb qb rb sb p1 p2 r1 r2 np nr pa qa ra sa pc qc rc sc P L _›))))
                  (first
                    | (go_at_call 20; go_split_ands; refine (JR.as (by assumption) _ _ _ _ _).mono ?_; rintro e w9 ⟨rfl, hq9⟩)
                    | (go_at_call 19; go_split_ands; with_reducible show Calls _ _ #[.agg #[.int .i64 p1, .int .i64 p2, .slice pa np pc], .agg #[.int .i64 p1, .int .i64 p2, .slice qa np qc]] _ _; refine (JR.same1 (by assumption)).mono ?_; rintro e w9 ⟨rfl, hq9⟩)
                    | (go_at_call 19; go_split_ands; with_reducible show Calls _ _ #[.agg #[.int .i64 r1, .int .i64 r2, .slice ra nr rc], .agg #[.int .i64 r1, .int .i64 r2, .slice sa nr sc]] _ _; refine (JR.same2 (by assumption)).mono ?_; rintro e w9 ⟨rfl, hq9⟩))
                all_goals
                  go_wp2_with fail
                  go_meet
                  case rel => exact ⟨rfl, by first | (with_reducible exact hr) | (with_reducible exact hr.drew) | (go_split_ands; assumption)⟩
              case rest =>
                obtain ⟨rfl, hr9⟩ := hcut
                have hr : JR wc xb ba k XW XH MW MH xa ma xn xc mn mc XL ML pb qb rb sb p1 p2 r1 r2 np nr pa qa ra sa pc qc rc sc P L wc := ⟨hr9.p, hr9.q, hr9.r, hr9.s, hr9.ps, hr9.qs, hr9.rs, hr9.ss, hr9.pl, hr9.rl, hr9.j.start⟩
                replace HBR := Lib.hid (bel_step HBR.out hr9.j.bel)
                clear hr9 o0 o1 o2 o3 o4 o5 o6 o7 o8 o9 o10 o11 hn1 hn2
                obtain ⟨o0, o1, o2, o3, o4, o5, o6, o7, o8, -⟩ := hr.all15
                go_wp2_with fail
                go_cut [131] from 111 to 131 (fun sx wx => sx = .bool false ∧ JR wc xb ba k XW XH MW MH xa ma xn xc mn mc XL ML pb qb rb sb p1 p2 r1 r2 np nr pa qa ra sa pc qc rc sc P L wx)
                case first =>
                  rcases HE.out with rfl | rfl
                  · have HN0 := Lib.hid (HH1.out rfl)
                    go_region_held3 (fun w' => w'.cell? ⟨pb, 0, none⟩ = some (.int .i64 p1) ∧ w'.cell? ⟨pb, 1, none⟩ = some (.int .i64 p2) ∧ w'.cell? ⟨pb, 2, none⟩ = some (.slice pa np pc) ∧ w'.cell? ⟨xb, 0, none⟩ = some (.int .i64 XW) ∧ w'.cell? ⟨xb, 1, none⟩ = some (.int .i64 XH) ∧ w'.cell? ⟨xb, 2, none⟩ = some (.slice xa xn xc) ∧ w'.cell? ⟨ba, k * 3, none⟩ = some (.int .i64 MW) ∧ w'.cell? ⟨ba, k * 3 + 1, none⟩ = some (.int .i64 MH) ∧ w'.cell? ⟨ba, k * 3 + 2, none⟩ = some (.slice ma mn mc) ∧ JR wc xb ba k XW XH MW MH xa ma xn xc mn mc XL ML pb qb rb sb p1 p2 r1 r2 np nr pa qa ra sa pc qc rc sc P L w')
                      (first | (with_reducible exact JR.all15 hr) | (with_reducible exact JR.all15 hr.drew) | (go_split_ands; with_reducible exact JR.all15 (‹JR wc xb ba k XW XH MW MH xa ma xn xc mn mc XL ML pb qb rb sb p1 p2 r1 r2 np nr pa qa ra sa pc qc rc sc P L _›)) | (go_split_ands; with_reducible exact JR.all15 (JR.drew (‹JR wc xb ba k XW XH MW MH xa ma xn xc mn mc XL ML pb qb rb sb p1 p2 r1 r2 np nr pa qa ra sa pc qc rc sc P L _›))))
                      (first
                        | (go_at_call 15; go_split_ands; refine (JR.of (by assumption) _ _ _ _ _).mono ?_; rintro e w9 ⟨rfl, hq9⟩)
                        | (go_at_call 21; go_split_ands; with_reducible show Calls _ _ #[_, .agg #[.int .i64 XW, .int .i64 XH, .slice xa xn xc], .int .i64 0, .int .i64 0] _ _; refine (JR.hasp (by assumption) HN0.out.1 (fun Q => Q.j.sx)).mono ?_; rintro e w9 ⟨rfl, hq9⟩)
                        | (go_at_call 21; go_split_ands; with_reducible show Calls _ _ #[_, .agg #[.int .i64 MW, .int .i64 MH, .slice ma mn mc], .int .i64 XW, .int .i64 0] _ _; refine (JR.hasp (by assumption) HN0.out.2 (fun Q => Q.j.sm)).mono ?_; rintro e w9 ⟨rfl, hq9⟩))
                    all_goals
                      go_wp2_with fail
                      go_meet
                      case rel => exact ⟨rfl, by first | (with_reducible exact hr) | (with_reducible exact hr.drew) | (go_split_ands; assumption)⟩
                  · go_region
                    all_goals
                      go_wp2_with fail
                      go_meet
                      case rel => exact ⟨rfl, by first | (with_reducible exact hr) | (with_reducible exact hr.drew) | exact hr.later ⟨rfl, rfl, rfl, Nat.le_refl _, fun _ _ => rfl⟩⟩
                case rest =>
                  obtain ⟨rfl, hr9⟩ := hcut
                  have hr : JR wc xb ba k XW XH MW MH xa ma xn xc mn mc XL ML pb qb rb sb p1 p2 r1 r2 np nr pa qa ra sa pc qc rc sc P L wc := ⟨hr9.p, hr9.q, hr9.r, hr9.s, hr9.ps, hr9.qs, hr9.rs, hr9.ss, hr9.pl, hr9.rl, hr9.j.start⟩
                  replace HBR := Lib.hid (bel_step HBR.out hr9.j.bel)
                  clear hr9 o0 o1 o2 o3 o4 o5 o6 o7 o8
                  obtain ⟨o0, o1, o2, o3, o4, o5, o6, o7, o8, -⟩ := hr.all17
                  go_wp2_with fail
                  go_cut [152] from 132 to 152 (fun sx wx => sx = .bool false ∧ JR wc xb ba k XW XH MW MH xa ma xn xc mn mc XL ML pb qb rb sb p1 p2 r1 r2 np nr pa qa ra sa pc qc rc sc P L wx)
                  case first =>
                    rcases HG.out with rfl | rfl
                    · have HN0 := Lib.hid (HH2.out rfl)
                      go_region_held3 (fun w' => w'.cell? ⟨rb, 0, none⟩ = some (.int .i64 r1) ∧ w'.cell? ⟨rb, 1, none⟩ = some (.int .i64 r2) ∧ w'.cell? ⟨rb, 2, none⟩ = some (.slice ra nr rc) ∧ w'.cell? ⟨xb, 0, none⟩ = some (.int .i64 XW) ∧ w'.cell? ⟨xb, 1, none⟩ = some (.int .i64 XH) ∧ w'.cell? ⟨xb, 2, none⟩ = some (.slice xa xn xc) ∧ w'.cell? ⟨ba, k * 3, none⟩ = some (.int .i64 MW) ∧ w'.cell? ⟨ba, k * 3 + 1, none⟩ = some (.int .i64 MH) ∧ w'.cell? ⟨ba, k * 3 + 2, none⟩ = some (.slice ma mn mc) ∧ JR wc xb ba k XW XH MW MH xa ma xn xc mn mc XL ML pb qb rb sb p1 p2 r1 r2 np nr pa qa ra sa pc qc rc sc P L w')
                        (first | (with_reducible exact JR.all17 hr) | (with_reducible exact JR.all17 hr.drew) | (go_split_ands; with_reducible exact JR.all17 (‹JR wc xb ba k XW XH MW MH xa ma xn xc mn mc XL ML pb qb rb sb p1 p2 r1 r2 np nr pa qa ra sa pc qc rc sc P L _›)) | (go_split_ands; with_reducible exact JR.all17 (JR.drew (‹JR wc xb ba k XW XH MW MH xa ma xn xc mn mc XL ML pb qb rb sb p1 p2 r1 r2 np nr pa qa ra sa pc qc rc sc P L _›))))
                        (first
                          | (go_at_call 15; go_split_ands; refine (JR.of (by assumption) _ _ _ _ _).mono ?_; rintro e w9 ⟨rfl, hq9⟩)
                          | (go_at_call 21; go_split_ands; with_reducible show Calls _ _ #[_, .agg #[.int .i64 XW, .int .i64 XH, .slice xa xn xc], .int .i64 0, .int .i64 0] _ _; refine (JR.hasr (by assumption) HN0.out.1 (fun Q => Q.j.sx)).mono ?_; rintro e w9 ⟨rfl, hq9⟩)
                          | (go_at_call 21; go_split_ands; with_reducible show Calls _ _ #[_, .agg #[.int .i64 MW, .int .i64 MH, .slice ma mn mc], .int .i64 0, .int .i64 XH] _ _; refine (JR.hasr (by assumption) HN0.out.2 (fun Q => Q.j.sm)).mono ?_; rintro e w9 ⟨rfl, hq9⟩))
                      all_goals
                        go_wp2_with fail
                        go_meet
                        case rel => exact ⟨rfl, by first | (with_reducible exact hr) | (with_reducible exact hr.drew) | (go_split_ands; assumption)⟩
                    · go_region
                      all_goals
                        go_wp2_with fail
                        go_meet
                        case rel => exact ⟨rfl, by first | (with_reducible exact hr) | (with_reducible exact hr.drew) | exact hr.later ⟨rfl, rfl, rfl, Nat.le_refl _, fun _ _ => rfl⟩⟩
                  case rest =>
                    obtain ⟨rfl, hr9⟩ := hcut
                    have hBX := bel_step HBR.out hr9.j.bel
                    clear hr9 o0 o1 o2 o3 o4 o5 o6 o7 o8
                    go_wp2_with fail
                    go_roundg g
                    case measure => omega
                    case rel => exact ⟨k + 1, by omega, by go_num, hBX⟩
end Go.Proofs.Ytldhhhmihfcalaa

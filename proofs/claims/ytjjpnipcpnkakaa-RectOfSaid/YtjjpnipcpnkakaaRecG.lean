/- A part of a matrix, its rows, its columns, whatever places are told. Condition: numbers fit their kinds. -/
import Derived.Test.YtjjpnipcpnkakaaRecF
namespace Go.Proofs.Ytjjpnipcpnkakaa
open Go.RowKit
set_option linter.unusedVariables false

theorem zero_mt (w : World) (o : Obj) : Sb ((w.alloc o).alloc (.cells #[.int .i64 0, .int .i64 0, .slice none 0 0] 26)) (w.heap.size + 1) 26 (.int .i64 0) (.int .i64 0) (.slice none 0 0) := by
  simpa using Sb.new (w.alloc o) 26 (.int .i64 0) (.int .i64 0) (.slice none 0 0)
set_option maxHeartbeats 1000000 in
theorem sub_no (W H x y p q : Int) (a : Option Addr) (c : Nat) (L : List Int) (hL : Rc.Ok W H L) (hc : L.length ≤ c) (hc2 : c ≤ 9223372036854775807) (hx : (Rc.insV x p W && Rc.insV y q H) = false) (w : World) :
    Calls Try.prog 69 #[.agg #[.int .i64 W, .int .i64 H, .slice a L.length c], .int .i64 x, .int .i64 y, .int .i64 p, .int .i64 q] w fun e w' => e = .returned (.tuple #[.agg #[.int .i64 0, .int .i64 0, .slice none 0 0], .bool false]) ∧ Below w.heap.size w w' := by
  have hn := ok_len hL
  have hC := Lib.hid (fun W2 => covers_any W H a L.length c x y p q (Rc.ok_may hL) W2)
  have B := box2 w (.cells #[.int .i64 W, .int .i64 H, .slice a L.length c] 26) (.cells #[.int .i64 0, .int .i64 0, .slice none 0 0] 26)
  have HE := Lib.hid (zero_mt w (.cells #[.int .i64 W, .int .i64 H, .slice a L.length c] 26))
  clear hL
  go_enter Try.func69, Try.ntmps69
  go_wp2_with (go_at_call 74; refine (hC.out _).mono ?_; rw [hx]; rintro e w1 ⟨rfl, hb⟩; replace B := bel_step B hb; have E := HE.out.later hb; obtain ⟨e0, e1, e2⟩ := E.cells; obtain ⟨f0, f1, f2⟩ := E.fr)
  have R := E.put (.int .i64 0) (.int .i64 0) (.slice none 0 0)
  refine bodyPost_ret (ret_cell2 Try.results69 _ _ _ _ rfl (load_mt R)) rfl ?_
  exact ⟨rfl, by go_grown⟩
/-- what a call hands back that makes a matrix -/
def MatR (base : Nat) (w' : World) (e : Ending) (S : Int × Int × List Int) (tail : List Value) : Prop :=
  ∃ a c, e = .returned (.tuple ((.agg #[.int .i64 S.1, .int .i64 S.2.1, .slice a S.2.2.length c]) :: tail).toArray) ∧ OwnK .u64 base w' a S.2.2 ∧ S.2.2.length ≤ c ∧ c ≤ 9223372036854775807
theorem sub_any (W H x y p q : Int) (a : Option Addr) (c : Nat) (L : List Int) (hL : Rc.Ok W H L) (hc : L.length ≤ c) (hc2 : c ≤ 9223372036854775807) (w : World) (hs : SlK .u64 w a L.length L) :
    Calls Try.prog 69 #[.agg #[.int .i64 W, .int .i64 H, .slice a L.length c], .int .i64 x, .int .i64 y, .int .i64 p, .int .i64 q] w fun e w' =>
      MatR w.heap.size w' e ((Rc.subV W H L x y p q).1, (Rc.subV W H L x y p q).2.1, (Rc.subV W H L x y p q).2.2.1) [.bool (Rc.subV W H L x y p q).2.2.2] ∧ Below w.heap.size w w' := by
  cases hx : (Rc.insV x p W && Rc.insV y q H)
  · refine (sub_no W H x y p q a c L hL hc hc2 hx w).mono ?_
    rintro e w' ⟨rfl, hb⟩
    rw [show Rc.subV W H L x y p q = (0, 0, [], false) by simp [Rc.subV, hx]]
    exact ⟨⟨none, 0, rfl, .inl rfl, Nat.le_refl _, by omega⟩, hb⟩
  · obtain ⟨k1, k2⟩ : Rc.insV x p W = true ∧ Rc.insV y q H = true := by simpa using hx
    have hl := Rc.subL_length hL.2.2.2.2.2 k1 k2
    have ho := ok_len (Rc.sub_ok hL k1 k2)
    refine (sub_yes W H x y p q a c L hL hc hc2 k1 k2 w hs).mono ?_
    rintro e w' ⟨g, rfl, hg, hb⟩
    rw [show Rc.subV W H L x y p q = (p, q, Rc.subL L W x y p q, true) by simp only [Rc.subV, hx, if_true]]
    exact ⟨⟨some ⟨g, 0, none⟩, q.toNat * p.toNat, by rw [hl], hg.own, Nat.le_of_eq hl, by rw [← hl]; omega⟩, hb⟩
def rowV (W H : Int) (L : List Int) (y : Int) : List Int := (Rc.subV W H L 0 y W 1).2.2.1
def colV (W H : Int) (L : List Int) (x : Int) : List Int := (Rc.subV W H L x 0 1 H).2.2.1
set_option maxHeartbeats 1000000 in
theorem row_of (W H y : Int) (a : Option Addr) (c : Nat) (L : List Int) (hL : Rc.Ok W H L) (hc : L.length ≤ c) (hc2 : c ≤ 9223372036854775807) (w : World) (hs : SlK .u64 w a L.length L) :
    Calls Try.prog 20 #[.agg #[.int .i64 W, .int .i64 H, .slice a L.length c], .int .i64 y] w fun e w' => ∃ ad cap, e = .returned (.slice ad (rowV W H L y).length cap) ∧ OwnK .u64 w.heap.size w' ad (rowV W H L y) ∧ Below w.heap.size w w' := by
  have B := box1 w (.cells #[.int .i64 W, .int .i64 H, .slice a L.length c] 26)
  have hS := Lib.hid (sub_any W H 0 y W 1 a c L hL hc hc2 _ (hs.below B))
  obtain ⟨V, hV⟩ : ∃ V, Rc.subV W H L 0 y W 1 = V := ⟨_, rfl⟩
  unfold rowV
  rw [hV] at hS ⊢
  obtain ⟨V1, V2, V3, V4⟩ := V
  have hn := ok_len hL
  clear hL hs hV
  go_enter Try.func20, Try.ntmps20
  go_wp2_with (go_at_call 69; refine (hS.out).mono ?_; rintro e w1 ⟨⟨a1, c1, rfl, ho, hl, hm⟩, hb⟩)
  go_ret
  exact ⟨_, _, rfl, (ho.mono (by simp)).later (box1 _ _), bel_step (bel_step B hb) (box1 _ _)⟩
set_option maxHeartbeats 1000000 in
theorem col_of (W H x : Int) (a : Option Addr) (c : Nat) (L : List Int) (hL : Rc.Ok W H L) (hc : L.length ≤ c) (hc2 : c ≤ 9223372036854775807) (w : World) (hs : SlK .u64 w a L.length L) :
    Calls Try.prog 21 #[.agg #[.int .i64 W, .int .i64 H, .slice a L.length c], .int .i64 x] w fun e w' => ∃ ad cap, e = .returned (.slice ad (colV W H L x).length cap) ∧ OwnK .u64 w.heap.size w' ad (colV W H L x) ∧ Below w.heap.size w w' := by
  have B := box1 w (.cells #[.int .i64 W, .int .i64 H, .slice a L.length c] 26)
  have hS := Lib.hid (sub_any W H x 0 1 H a c L hL hc hc2 _ (hs.below B))
  obtain ⟨V, hV⟩ : ∃ V, Rc.subV W H L x 0 1 H = V := ⟨_, rfl⟩
  unfold colV
  rw [hV] at hS ⊢
  obtain ⟨V1, V2, V3, V4⟩ := V
  have hn := ok_len hL
  clear hL hs hV
  go_enter Try.func21, Try.ntmps21
  go_wp2_with (go_at_call 69; refine (hS.out).mono ?_; rintro e w1 ⟨⟨a1, c1, rfl, ho, hl, hm⟩, hb⟩)
  go_ret
  exact ⟨_, _, rfl, (ho.mono (by simp)).later (box1 _ _), bel_step (bel_step B hb) (box1 _ _)⟩
end Go.Proofs.Ytjjpnipcpnkakaa

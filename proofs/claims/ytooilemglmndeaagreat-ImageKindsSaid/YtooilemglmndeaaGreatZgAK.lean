/- What writes a raster of bytes, as a closure over a head; an image's bytes, of a raw kind, by the code; over any memory. Condition: the kind may tell the image, at most 80 by 9. -/
import Derived.Test.YtooilemglmndeaaGreatZgAD
import Derived.Test.YtooilemglmndeaaGreatZgAE
import Derived.Test.YtooilemglmndeaaGreatZRwWs
import Derived.Deep.RegionHeld3
import Derived.Deep.AppendLies
import Derived.Test.YtooilemglmndeaaGreatZBtK
import Derived.Test.YtooilemglmndeaaGreatZPlW1
import Derived.Test.YtooilemglmndeaaGreatZgAG
import Derived.Test.YtooilemglmndeaaGreatZRwJ
import Derived.Test.YtooilemglmndeaaGreatZgAA
import Derived.Deep.DeepCutAuto
namespace Go.Proofs.YtooilemglmndeaaGreat
set_option linter.unusedVariables false
open Go.RowKit
set_option linter.unusedVariables false
theorem Im.writer_raw (h : Hd.H) (hm : Hd.May h) (hk : 3 < h.kd) (w : World) :
    Calls Tryz.prog 74 #[agH h] w fun e w' => ∃ b, e = .returned (.func (.func 123) #[] #[.pointer (some ⟨b, 0, none⟩)]) ∧ Hb w' b 62 h ∧ Below w.heap.size w w' := by
  have HR := Lib.hid (hraw_any h hm)
  rw [decide_eq_true hk] at HR
  obtain ⟨kd, ww, hh, mx⟩ := h
  have X := Hb.new w 62 ⟨kd, ww, hh, mx⟩
  have hbx := (Below.refl w.heap.size w).alloc (Nat.le_refl _) (.cells #[.int .i64 kd, .int .i64 ww, .int .i64 hh, .int .i64 mx] 62)
  obtain ⟨W, hW⟩ : ∃ W, w.alloc (.cells #[.int .i64 kd, .int .i64 ww, .int .i64 hh, .int .i64 mx] 62) = W := ⟨_, rfl⟩
  simp only at X
  rw [hW] at X hbx
  unfold agH at HR ⊢
  simp only at HR ⊢
  clear hm hk
  go_enter Tryz.func74, Tryz.ntmps74
  go_upto_region 1 with fail
  try rw [hW]
  clear hW
  obtain ⟨l0, l1, l2, l3⟩ := X.cells
  simp only at l0 l1 l2 l3
  go_wp2_with fail
  refine (HR.out _).mono ?_
  rintro e w2 ⟨rfl, hb2⟩
  go_wp2
  go_ret
  exact ⟨_, rfl, X.later hb2, hbx.trans (hb2.mono hbx.size)⟩
theorem Im.raster_raw (a : Option Addr) (n cap : Nat) (R : List Int) (h : Hd.H) (b : Nat) (w : World) (X : Hb w b 62 h)
    (HC : ∀ W, Below w.heap.size w W → Calls Tryz.prog 124 #[.slice a n cap, agH h] W (RwwR (R, 0) W)) :
    Calls Tryz.prog 123 #[.slice a n cap, .pointer (some ⟨b, 0, none⟩)] w fun e w' => ∃ a' c', e = .returned (.slice a' R.length c') ∧ SlK .u8 w' a' R.length R ∧ Below w.heap.size w w' := by
  have HC := Lib.hid HC
  obtain ⟨kd, ww, hh, mx⟩ := h
  unfold agH RwwR at HC
  simp only at HC
  obtain ⟨l0, l1, l2, l3⟩ := X.cells
  simp only at l0 l1 l2 l3
  go_enter Tryz.func123, Tryz.ntmps123
  go_wp2_with fail
  refine (HC.out _ (.refl _ _)).mono ?_
  rintro e w2 ⟨a', c', rfl, hs, _, hb⟩
  have HS := Lib.hid hs
  clear hs
  go_wp2
  go_ret
  exact ⟨_, _, rfl, HS.out, hb⟩
end Go.Proofs.YtooilemglmndeaaGreat

/- An image's bytes, of a raw kind, by the code, over any memory. Condition: the kind may tell the image, at most 80 by 9. -/
namespace Go.Proofs.YtooilemglmndeaaGreat
set_option linter.unusedVariables false
open Go.RowKit
set_option linter.unusedVariables false
theorem Im.conv_rm (w : World) (s : ByteArray) (hs : s.size ≤ 100000) :
    ∃ cap w', (convert 9 22 (.string s)).run Tryz.prog w = .ok (.slice (some ⟨w.heap.size, 0, none⟩) s.size cap) w' ∧ Im.Rm w' w.heap.size s.size cap (bytesOf s) ∧ Below w.heap.size w w' := by
  refine ⟨_, _, Lib.run_convert_string_bytes w _ _ 5 s Tryz.underlying9 Tryz.underlying22 Tryz.underlying5, ⟨⟨⟨bytesOf_length s, .inr ⟨w.heap.size, 0, rfl, fun i hi => ?_⟩⟩, grownCap_ge _ _ _ _, ?_, ?_⟩, by rw [Lib.bytesWorld_size]; omega, fun j j1 j2 => ?_⟩, Im.bytes_below _ _ _⟩
  · rw [Nat.zero_add, Lib.bytesWorld_cell _ _ _ _ hi, Im.bytes_get]
  · have := grownCap_le_maxLen w s.size 0 5 (by unfold maxLen; omega)
    unfold maxLen at this; omega
  · intro z hz
    unfold bytesOf at hz
    obtain ⟨b, _, rfl⟩ := List.mem_map.1 hz
    have := b.toNat_lt
    omega
  · have hat := Lib.bytesWorld_at_new w 5 s
    have hsz : (Lib.bytesCells w 5 s).size = grownCap w s.size 0 5 := by
      have := grownCap_ge w s.size 0 5
      have e : s.data.size = s.size := rfl
      simp [Lib.bytesCells, e]; omega
    have hj : j < (Lib.bytesCells w 5 s).size := by omega
    refine ⟨?_, ?_⟩
    · simp [World.cell?, hat, Array.getElem?_eq_getElem hj]
    · simp [World.frozen?, hat]; omega
theorem Im.step_app {ops : Array Oper} {o : Oper} {a : Act} {w : World} {K : Act → World → Prop} {Q : Exit → Act → World → Prop} {E : Prop} (hgd : o.guard = none) (s x : Operand)
    (ho : o.op = .call { callee := .builtin .append, args := #[s, x], argTypes := #[22, 22] })
    {b n cap : Nat} {xs : List Int} (h : Im.Rm w b n cap xs) (hn : 1 ≤ n) {ad : Option Addr} {m c : Nat} {l : List Int} (hy : SlK .u8 w ad m l) (hm : 1 ≤ m) (hl9 : n + m ≤ 1000000)
    (hs : a.eval s = .slice (some ⟨b, 0, none⟩) n cap) (hx : a.eval x = .slice ad m c)
    (hK : ∀ a' c' w', SlK .u8 w' a' (n + m) (xs ++ l) → (∀ B, B ≤ b → Below B w w') → K (a.put o.dst (.slice a' (n + m) c')) w') :
    if Region.wanted o (yielded ops a.tmps) = true then Oper.wp Tryz.prog o a w K Q else E := by
  have hw : Region.wanted o (yielded ops a.tmps) = true := by simp [Region.wanted, hgd]
  rw [if_pos hw]
  obtain ⟨a', c', w', hr, h1, h2⟩ := Im.run_app h hn (c := c) hy hm hl9 o.type
  unfold Oper.wp execOp
  simp only [ho, resolve, invoke, builtin, Sem.run_bind, Sem.run_pure, Result.andThen_ok, List.map_toArray, List.map_cons, List.map_nil, hs, hx, hr]
  exact hK _ _ _ h1 h2
end Go.Proofs.YtooilemglmndeaaGreat

/- Bytes appended, cut, set; a raster of bytes cut off. No condition. -/
namespace Go.Proofs.YtooilemglmndeaaGreat
set_option linter.unusedVariables false
open Go.RowKit
end Go.Proofs.YtooilemglmndeaaGreat

/- An image's bytes by the document, over any memory. Condition: at most 1000 pixels. -/
namespace Go.Proofs.YtooilemglmndeaaGreat
set_option linter.unusedVariables false
open Go.RowKit
set_option linter.unusedVariables false
theorem Im.good_of_fits {p c m : Int} (hU : Pq.Px.U p) (h : Pq.Px.fitsV p c m = true) : Pq.GoodP p c m := by
  rcases Pq.Px.tri hU with ⟨a, b, d, h3⟩ | ⟨a, h1⟩ | h0
  · obtain ⟨k1, k2, k3, k4, -, -⟩ := Pq.Px.fits3_get h3 h
    exact .inl ⟨k1, a, b, d, h3, k2, k3, k4⟩
  · obtain ⟨k1, k2, -, -⟩ := Pq.Px.fits1_get h1 h
    exact .inr ⟨k1, a, h1, k2⟩
  · exact absurd h (by rw [Pq.Px.fitsV0 h0]; decide)
theorem Im.fits_of_all {G : Hd.H} {l : List Int} (hU : ∀ p ∈ l, Pq.Px.U p) (h : Pl.fitAll G l = true) : Pl.Fits G l := fun p hp => by
  unfold Pl.fitAll at h
  rw [List.all_eq_true] at h
  exact Im.good_of_fits (hU p hp) (h p hp)
/-- an image's bytes, and the error -/
def Im.rawV (kd m : Int) (gw gh : Nat) (L : List Int) : List Int := Hd.bytes ⟨kd, (gw : Int), (gh : Int), m⟩ ++ Rw.wRows ⟨kd, (gw : Int), (gh : Int), m⟩ L gw gh
section
variable (c m kd : Int) (gw gh : Nat) (hc : Nu.I c) (hm : Nu.I m) (a : Option Addr) (n cap : Nat) (L : List Int) (hn : n ≤ 400) (hN : n = gw * gh) (hU : ∀ x ∈ L, Pq.Px.U x) (ht : Im.tellV c m (gw : Int) (gh : Int) n L kd = true)
include hc hm hn hN hU ht
end
end Go.Proofs.YtooilemglmndeaaGreat

/- Images of one pixel only: may they be, are they laid; what Add comes to there. Condition: the image is of the one pixel. -/
import Derived.Test.YtmlinoanpcbflaaZDcP
import Derived.Test.YtmlinoanpcbflaaZgAA
namespace Go.Proofs.Ytmlinoanpcbflaa
open Go.RowKit
set_option linter.unusedVariables false
open Dc
namespace Dc
def PX : Int := 281474976710656
def One (n : Nat) (L : List Int) : Prop := L.length = n ∧ ∀ p ∈ L, p = PX
theorem One.U {n : Nat} {L : List Int} (h : One n L) : ∀ p ∈ L, Pq.Px.U p := fun p hp => by rw [h.2 p hp]; unfold PX Pq.Px.U; omega
theorem One.eq {n : Nat} {L M : List Int} (h : One n L) (k : One n M) : L = M := by
  apply List.ext_getElem (by rw [h.1, k.1])
  intro i h1 h2
  rw [h.2 _ (List.getElem_mem h1), k.2 _ (List.getElem_mem h2)]
theorem One.fit {n : Nat} {L : List Int} (h : One n L) : fitL 1 9 L = true := by
  unfold fitL
  rw [List.all_eq_true]
  intro p hp
  rw [h.2 p hp]
  decide +kernel
def oneI (W H : Nat) (L : List Int) : Im := (1, 9, W, H, L)
theorem one_may {W H n : Nat} {L : List Int} (h : One n L) (hn : n = W * H) (hs : Rc.sized W H = true) : mayB (oneI W H L) = true := by
  unfold mayB Im.mayV Rc.mayV oneI
  dsimp only
  rw [h.fit, hs, h.1, hn]
  simp
theorem one_lay {W H n : Nat} {L : List Int} (h : One n L) (hn : n = W * H) (g : Nat) (hg : g < 8) : One n (Tu.layL g W H L) := by
  refine ⟨by rw [Tu.layL_len, hn], fun p hp => ?_⟩
  unfold Tu.layL Tu.grid at hp
  obtain ⟨i, hi, rfl⟩ := List.mem_map.1 hp
  have hi' := List.mem_range.1 hi
  dsimp only
  have hw : 0 < Tu.sw g W H := Nat.pos_of_ne_zero fun e => by rw [e] at hi'; simp at hi'
  have hx : i % Tu.sw g W H < Tu.sw g W H := Nat.mod_lt _ hw
  have hy : i / Tu.sw g W H < Tu.sw g H W := (Nat.div_lt_iff_lt_mul hw).2 (by rw [Nat.mul_comm]; exact hi')
  obtain ⟨h1, h2⟩ := Tu.src_in hg hx hy
  unfold Tu.atL
  have hb : Tu.sy g W H (i % Tu.sw g W H) (i / Tu.sw g W H) * W + Tu.sx g W H (i % Tu.sw g W H) (i / Tu.sw g W H) < L.length := by
    rw [h.1, hn]
    have : (Tu.sy g W H (i % Tu.sw g W H) (i / Tu.sw g W H) + 1) * W ≤ H * W := Nat.mul_le_mul_right _ h2
    rw [Nat.succ_mul] at this
    rw [Nat.mul_comm W H]
    omega
  rw [List.getD_eq_getElem?_getD, List.getElem?_eq_getElem hb]
  exact h.2 _ (List.getElem_mem hb)
theorem ris1 {g : Int} (hg : Tu.isT g = true) : risV [g] = [g] := by
  unfold risV
  rw [if_pos ⟨fun t ht => by obtain rfl := List.mem_singleton.1 ht; exact hg, by simp⟩]
  exact List.mergeSort_of_pairwise (by simp)
theorem ris01 : risV [0, 1] = [0, 1] := by
  unfold risV
  rw [if_pos (by decide)]
  exact List.mergeSort_of_pairwise (by decide)
theorem ris02 : risV [0, 2] = [0, 2] := by
  unfold risV
  rw [if_pos (by decide)]
  exact List.mergeSort_of_pairwise (by decide)
theorem ris_8 (g : Int) : risV [g, 8] = [] := by
  unfold risV
  refine if_neg fun h => ?_
  have := h.1 8 (by simp)
  revert this; decide
/-- what Add hands back there -/
def AddC (w : World) (F : Nat → Prop) (sb : Nat) (ts : List Tp) (x : Im) (l : List Int) (n e : Int) (en : Ending) (w' : World) : Prop :=
  en = .returned (.tuple #[.int .i64 n, .int .i64 e]) ∧ ∃ F', DctP w' F' sb (if e = 0 then ts ++ [(x, risV l)] else ts) ∧ Sep F w w' ∧ ∀ g, F' g → F g ∨ w.heap.size ≤ g
theorem one_any {w : World} {F : Nat → Prop} {sb : Nat} {ts : List Tp} (h : DctP w F sb ts) (hd : OkD ts) (W H n c b B m k : Nat) (L l : List Int) (hL : One n L) (hl : l.length = m) (hm : m ≤ 9) (hc : n ≤ c) (hc2 : c ≤ 9223372036854775807) (hb : ¬ F b) (hB : B < w.heap.size) (h1 : SlK .u64 w (some ⟨b, 0, none⟩) n L) (h2 : SlK .i64 w (some ⟨B, 0, none⟩) m l) {e : Int} (he : addE ts (oneI W H L) l = e) :
    Calls Try.prog 8 #[.pointer (some ⟨sb, 0, none⟩), .agg #[.int .i64 1, .int .i64 9, .int .i64 (W : Int), .int .i64 (H : Int), .slice (some ⟨b, 0, none⟩) n c], .slice (some ⟨B, 0, none⟩) m k] w (AddC w F sb ts (oneI W H L) l (if e = 0 then (ts.length : Int) else -1) e) := by
  have hLn := hL.1
  have h9 := dAdd_any h hd (oneI W H L) (some ⟨b, 0, none⟩) c (by unfold oneI; exact hL.U) (by unfold oneI; dsimp only; omega) hc2 (by unfold oneI; dsimp only; rw [hLn]; exact h1) (some ⟨B, 0, none⟩) k l (by omega) (by rw [hl]; exact h2) (fun b' o e => by cases e; exact hB) (fun b' o e hF => by cases e; exact hb hF)
  unfold imV agI at h9
  have hx5 : (oneI W H L).2.2.2.2.length = n := hLn
  rw [hx5, hl] at h9
  refine h9.mono ?_
  rintro en w' ⟨he', F', hD, hS, hF⟩
  refine ⟨?_, F', ?_, hS, hF⟩
  · rw [he', he]; unfold addN; rw [he]
  · unfold addT at hD; rw [he] at hD; exact hD
end Dc
end Go.Proofs.Ytmlinoanpcbflaa

/- A row of one pixel, made; images over it, beside a dictionary. No condition. -/
namespace Go.Proofs.Ytmlinoanpcbflaa
open Go.RowKit
set_option linter.unusedVariables false
open Dc
namespace Dc
theorem row_ownG {w : World} {B g n : Nat} {L : List Int} (h : w.ownsRow B 23 1 (.slice (some ⟨g, 0, none⟩) n n) n (L.map (Value.int .u64))) : OwnG 0 w g L := by
  rcases h.2 with ⟨e, _⟩ | ⟨g', cap, cur, e, _, hb, h1, h2, h3, h4⟩
  · cases e
  · injection e with e1 e2 e3
    injection e1 with e1
    injection e1 with e1
    subst e1
    subst e3
    refine ⟨Nat.zero_le _, ?_⟩
    rw [hb]
    have : cur.toList = L.map (Value.int .u64) := by
      rw [← h4, List.take_of_length_le]
      rw [Array.length_toList, h3]; exact Nat.le_refl _
    rw [← this]
theorem made_px0 (n : Nat) : madeCells #[Value.int .u64 0] n = ((List.replicate n (0 : Int)).map (Value.int .u64)).toArray := by
  apply Array.ext
  · simp [madeCells]
  · intro i h1 h2
    simp [madeCells, Nat.mod_one]
theorem made_row {w : World} {B g n : Nat} (h : w.ownsRow B 23 1 (.slice (some ⟨g, 0, none⟩) n n) n (madeCells (Value.int .u64 0).cells (n * 1)).toList) : ∃ L : List Int, OwnG 0 w g L ∧ L.length = n := by
  rw [show (Value.int IntKind.u64 0).cells = #[Value.int .u64 0] from rfl, Nat.mul_one, made_px0, List.toList_toArray] at h
  exact ⟨_, row_ownG h, List.length_replicate⟩
/-- the first k of a row are the one pixel -/
def Upto (k : Nat) (L : List Int) : Prop := ∀ i, i < k → L.getD i 0 = PX
theorem Upto.succ {k : Nat} {L : List Int} (h : Upto k L) (hk : k < L.length) : Upto (k + 1) (L.set k PX) := fun i hi => by
  rw [List.getD_eq_getElem?_getD]
  by_cases e : i = k
  · subst e; rw [List.getElem?_set_self hk]; rfl
  · rw [List.getElem?_set_ne (fun h => e h.symm), ← List.getD_eq_getElem?_getD]; exact h i (by omega)
theorem Upto.one {n : Nat} {L : List Int} (h : Upto n L) (hn : L.length = n) : One n L := by
  refine ⟨hn, fun p hp => ?_⟩
  obtain ⟨i, hi, rfl⟩ := List.getElem_of_mem hp
  have := h i (by omega)
  rw [List.getD_eq_getElem?_getD, List.getElem?_eq_getElem hi] at this
  exact this
theorem One.take {n k : Nat} {L : List Int} (h : One n L) (hk : k ≤ n) : One k (L.take k) := ⟨by rw [List.length_take, h.1]; omega, fun p hp => h.2 p (List.mem_of_mem_take hp)⟩
/-- a dictionary, two images, their pixels -/
structure TX (w : World) (F : Nat → Prop) (sb : Nat) (ts : List Tp) (wb tb b h N : Nat) (L : List Int) : Prop where
  d : DctP w F sb ts
  wide : Ib w wb 36 1 9 17 4097 (.slice (some ⟨b, 0, none⟩) N N)
  tall : Ib w tb 36 1 9 1 (h : Int) (.slice (some ⟨b, 0, none⟩) h N)
  pix : OwnG 0 w b L
  nw : ¬ F wb
  nt : ¬ F tb
  nb : ¬ F b
theorem TX.later {w w' : World} {F : Nat → Prop} {sb : Nat} {ts : List Tp} {wb tb b h N : Nat} {L : List Int} (x : TX w F sb ts wb tb b h N L) (hb : Below w.heap.size w w') : TX w' F sb ts wb tb b h N L :=
  ⟨x.d.later hb, x.wide.later hb, x.tall.later hb, x.pix.later hb, x.nw, x.nt, x.nb⟩
theorem TX.sep {w w' : World} {F F' : Nat → Prop} {sb : Nat} {ts ts' : List Tp} {wb tb b h N : Nat} {L : List Int} (x : TX w F sb ts wb tb b h N L) (hs : Sep F w w') (hd : DctP w' F' sb ts') (hF : ∀ g, F' g → F g ∨ w.heap.size ≤ g) : TX w' F' sb ts' wb tb b h N L := by
  refine ⟨hd, x.wide.sep hs x.nw, x.tall.sep hs x.nt, ⟨Nat.zero_le _, (hs.block b x.pix.lt x.nb).trans x.pix.2⟩, fun e => ?_, fun e => ?_, fun e => ?_⟩
  · rcases hF _ e with e | e
    · exact x.nw e
    · have := x.wide.lt; omega
  · rcases hF _ e with e | e
    · exact x.nt e
    · have := x.tall.lt; omega
  · rcases hF _ e with e | e
    · exact x.nb e
    · have := x.pix.lt; omega
theorem own_take {w : World} {b n k : Nat} {L : List Int} (h : OwnG 0 w b L) (hn : L.length = n) (hk : k ≤ n) : SlK .u64 w (some ⟨b, 0, none⟩) k (L.take k) := by
  refine ⟨by rw [List.length_take]; omega, .inr ⟨b, 0, rfl, fun i hi => ?_⟩⟩
  rw [Nat.zero_add, h.cell (i := i) (by omega), List.getD_eq_getElem?_getD, List.getD_eq_getElem?_getD, List.getElem?_take_of_lt hi]
/-- what an Add of one of the two comes to that is refused -/
def TxN (w : World) (F : Nat → Prop) (sb : Nat) (wb tb b h N : Nat) (L : List Int) (e : Int) (en : Ending) (w' : World) : Prop :=
  en = .returned (.tuple #[.int .i64 (-1), .int .i64 e]) ∧ ∃ F', TX w' F' sb [] wb tb b h N L ∧ Sep F w w' ∧ ∀ g, F' g → F g ∨ w.heap.size ≤ g
section
variable {w : World} {F : Nat → Prop} {sb wb tb b h : Nat} {L : List Int}
theorem tx_wide (x : TX w F sb [] wb tb b h 69649 L) (hL : One 69649 L) (l : List Int) (m k B : Nat) (hl : l.length = m) (hm : m ≤ 9) (hB : B < w.heap.size) (h2 : SlK .i64 w (some ⟨B, 0, none⟩) m l) {e : Int} (he : addE [] (oneI 17 4097 L) l = e) (h0 : e ≠ 0) :
    Calls Try.prog 8 #[.pointer (some ⟨sb, 0, none⟩), .agg #[.int .i64 1, .int .i64 9, .int .i64 17, .int .i64 4097, .slice (some ⟨b, 0, none⟩) 69649 69649], .slice (some ⟨B, 0, none⟩) m k] w (TxN w F sb wb tb b h 69649 L e) := by
  have h9 := one_any x.d okD_nil 17 4097 69649 69649 b B m k L l hL hl hm (Nat.le_refl _) (by omega) x.nb hB (ownG_len x.pix hL.1) h2 he
  refine h9.mono ?_
  rintro en w' ⟨he', F', hD, hS, hF⟩
  rw [if_neg h0] at he' hD
  exact ⟨he', F', x.sep hS hD hF, hS, hF⟩
theorem tx_tall (x : TX w F sb [] wb tb b h 69649 L) (hL : One 69649 L) (hh : h ≤ 69649) (l : List Int) (m k B : Nat) (hl : l.length = m) (hm : m ≤ 9) (hB : B < w.heap.size) (h2 : SlK .i64 w (some ⟨B, 0, none⟩) m l) {e : Int} (he : addE [] (oneI 1 h (L.take h)) l = e) :
    Calls Try.prog 8 #[.pointer (some ⟨sb, 0, none⟩), .agg #[.int .i64 1, .int .i64 9, .int .i64 1, .int .i64 (h : Int), .slice (some ⟨b, 0, none⟩) h 69649], .slice (some ⟨B, 0, none⟩) m k] w (AddC w F sb [] (oneI 1 h (L.take h)) l (if e = 0 then 0 else -1) e) :=
  one_any x.d okD_nil 1 h h 69649 b B m k (L.take h) l (hL.take hh) hl hm hh (by omega) x.nb hB (own_take x.pix hL.1 hh) h2 he
theorem tx_tallN (x : TX w F sb [] wb tb b h 69649 L) (hL : One 69649 L) (hh : h ≤ 69649) (l : List Int) (m k B : Nat) (hl : l.length = m) (hm : m ≤ 9) (hB : B < w.heap.size) (h2 : SlK .i64 w (some ⟨B, 0, none⟩) m l) {e : Int} (he : addE [] (oneI 1 h (L.take h)) l = e) (h0 : e ≠ 0) :
    Calls Try.prog 8 #[.pointer (some ⟨sb, 0, none⟩), .agg #[.int .i64 1, .int .i64 9, .int .i64 1, .int .i64 (h : Int), .slice (some ⟨b, 0, none⟩) h 69649], .slice (some ⟨B, 0, none⟩) m k] w (TxN w F sb wb tb b h 69649 L e) := by
  refine (tx_tall x hL hh l m k B hl hm hB h2 he).mono ?_
  rintro en w' ⟨he', F', hD, hS, hF⟩
  rw [if_neg h0] at he' hD
  exact ⟨he', F', x.sep hS hD hF, hS, hF⟩
end
end Dc
end Go.Proofs.Ytmlinoanpcbflaa

/- One template again and again; a great one. No condition. -/
namespace Go.Proofs.Ytmlinoanpcbflaa
open Go.RowKit
set_option linter.unusedVariables false
open Dc
namespace Dc
def X1 : Im := oneI 1 1 [PX]
theorem one_px : One 1 [PX] := ⟨rfl, fun p hp => List.mem_singleton.1 hp⟩
theorem x1_lay : lay X1 0 = X1 := by decide +kernel
theorem x1_may : mayB X1 = true := one_may one_px rfl (by decide)
theorem x1_fit : fitsB X1 [0] = true := by decide +kernel
/-- so many of them -/
def rep (k : Nat) : List Tp := List.replicate k (X1, [0])
theorem rep_succ (k : Nat) : rep (k + 1) = rep k ++ [(X1, [0])] := by unfold rep; exact List.replicate_succ'
theorem rep_len (k : Nat) : (rep k).length = k := by simp [rep]
theorem ins_same (l : List Im) (x : Im) (h : x ∈ l) : ins l x = l := by unfold ins; rw [if_pos h]
theorem rep_imgs (k : Nat) : imgs (rep (k + 1)) = [X1] := by
  induction k with
  | zero =>
    rw [rep_succ, imgs_more]
    show insAll (imgs (rep 0)) [lay X1 0] = _
    rw [x1_lay]; rfl
  | succ k ih =>
    rw [rep_succ, imgs_more, ih]
    show insAll [X1] [lay X1 0] = _
    rw [x1_lay, insAll_cons, ins_same _ _ (by simp)]; rfl
theorem rep_area (k : Nat) : area (imgs (rep k)) ≤ 1 := by
  cases k with
  | zero => exact Nat.zero_le _
  | succ k => rw [rep_imgs]; exact Nat.le_refl _
theorem rep_ok {k : Nat} (h : k ≤ 64) : OkD (rep k) := ⟨by rw [rep_len]; exact h, by have := rep_area k; omega, fun p hp => by rw [List.eq_of_mem_replicate hp]; decide⟩
theorem rep_own (k : Nat) : (own (rep k) X1).length = k := by
  induction k with
  | zero => rfl
  | succ k ih =>
    rw [rep_succ, own_more, List.length_append, ih]
    congr 1
theorem rep_ownV (k : Nat) : (ownV (rep (k + 1)) 0).length = k + 1 := by
  unfold ownV
  rw [rep_imgs]
  exact rep_own (k + 1)
theorem ris_0 : risV [0] = [0] := ris1 (by decide)
theorem rep_add {k : Nat} (h : k < 64) : addE (rep k) X1 [0] = 0 := by
  unfold addE
  rw [ris_0, if_neg (by rw [x1_may]; decide), if_neg (by rw [x1_fit]; decide), if_neg]
  rintro (e | e | e)
  · rw [rep_len] at e; omega
  · exact absurd e (by decide)
  · rw [← rep_succ, rep_imgs] at e; exact absurd e (by decide)
theorem rep_full : addE (rep 64) X1 [0] = 8 := by
  unfold addE
  rw [ris_0, if_neg (by rw [x1_may]; decide), if_neg (by rw [x1_fit]; decide), if_pos (.inl (rep_len 64))]
/-- the great one -/
theorem big_lay {h : Nat} {L : List Int} (hL : One (256 * h) L) {g : Nat} (hg : g = 0 ∨ g = 2) : lay (oneI 256 h L) (g : Int) = oneI 256 h L := by
  have h1 : Tu.layL g 256 h L = L := (one_lay hL rfl g (by omega)).eq hL
  show (1, 9, Tu.sw g 256 h, Tu.sw g h 256, Tu.layL g 256 h L) = _
  rw [h1]
  rcases hg with rfl | rfl <;> rfl
theorem big_imgs {h : Nat} {L : List Int} (hL : One (256 * h) L) : imgs [(oneI 256 h L, [0, 2])] = [oneI 256 h L] := by
  have e : imgs [(oneI 256 h L, [0, 2])] = insAll [] [lay (oneI 256 h L) ((0 : Nat) : Int), lay (oneI 256 h L) ((2 : Nat) : Int)] := rfl
  rw [e, big_lay hL (.inl rfl), big_lay hL (.inr rfl), insAll_cons, insAll_cons]
  rw [ins_same (ins [] (oneI 256 h L)) _ (by unfold ins; simp)]
  rfl
theorem big_area {h : Nat} {L : List Int} (hL : One (256 * h) L) : area [oneI 256 h L] = 256 * h := by
  unfold area
  rw [List.map_singleton, List.sum_singleton]
  exact hL.1
theorem big_sized {h : Nat} (h1 : 1 ≤ h) (h2 : h ≤ 300) : Rc.sized ((256 : Nat) : Int) (h : Int) = true := by unfold Rc.sized; simp; omega
theorem big_fit {h : Nat} {L : List Int} (h2 : h ≤ 300) : fitsB (oneI 256 h L) [0, 2] = true := by
  have h3 : (h : Int) ≤ 65536 := by omega
  simp [fitsB, fitB, oneI, Tu.sw]; omega
theorem big_add {h : Nat} {L : List Int} (hL : One (256 * h) L) (h1 : 1 ≤ h) (h2 : h ≤ 300) : addE [] (oneI 256 h L) [0, 2] = if h ≤ 256 then 0 else 8 := by
  unfold addE
  rw [ris02, if_neg (by rw [one_may hL rfl (big_sized h1 h2)]; decide), if_neg (by rw [big_fit h2]; decide), List.nil_append, big_imgs hL, big_area hL]
  have hl : (oneI 256 h L).2.2.2.2.length = 256 * h := hL.1
  rw [hl]
  by_cases h3 : h ≤ 256
  · rw [if_pos h3, if_neg]
    rintro (e | e | e)
    · exact absurd e (by decide)
    · omega
    · omega
  · rw [if_neg h3, if_pos (.inr (.inl (by omega)))]
theorem big_ok {h : Nat} {L : List Int} (hL : One (256 * h) L) (h3 : h ≤ 256) : OkD [(oneI 256 h L, [0, 2])] := ⟨by show 1 ≤ 64; decide, by rw [big_imgs hL, big_area hL]; omega, fun p hp => by obtain rfl := List.mem_singleton.1 hp; show 2 ≤ 9; decide⟩
theorem big_next {h : Nat} {L : List Int} (hL : One (256 * h) L) (h3 : h ≤ 256) : addE [(oneI 256 h L, [0, 2])] X1 [0] = if h = 256 then 8 else 0 := by
  have hne : X1 ∉ [oneI 256 h L] := fun e => by
    have h4 := List.mem_singleton.1 e
    have h5 : (1 : Nat) = 256 := congrArg (fun x : Im => x.2.2.1) h4
    omega
  have e : imgs ([(oneI 256 h L, [0, 2])] ++ [(X1, [0])]) = [oneI 256 h L] ++ [X1] := by
    rw [imgs_more, big_imgs hL]
    show insAll [oneI 256 h L] [lay X1 0] = _
    rw [x1_lay, insAll_cons]
    unfold ins
    rw [if_neg hne]; rfl
  unfold addE
  rw [ris_0, if_neg (by rw [x1_may]; decide), if_neg (by rw [x1_fit]; decide), e, area_append, big_area hL]
  have ha : area [X1] = 1 := by decide
  rw [ha]
  by_cases h4 : h = 256
  · rw [if_pos h4, if_pos (.inr (.inr (by omega)))]
  · rw [if_neg h4, if_neg]
    rintro (k | k | k)
    · exact absurd k (show ¬ (1 : Nat) = 64 by decide)
    · exact absurd k (show ¬ 65536 < 1 by decide)
    · omega
theorem nil_next : addE [] X1 [0] = 0 := rep_add (k := 0) (by omega)
/-- two dictionaries beside each other -/
structure DD (w : World) (F G : Nat → Prop) (s t : Nat) (ts us : List Tp) : Prop where
  one : DctP w F s ts
  two : DctP w G t us
  apart : ∀ k, F k → ¬ G k
theorem DD.later {w w' : World} {F G : Nat → Prop} {s t : Nat} {ts us : List Tp} (x : DD w F G s t ts us) (hb : Below w.heap.size w w') : DD w' F G s t ts us := ⟨x.one.later hb, x.two.later hb, x.apart⟩
theorem DD.first {w w' : World} {F G F' : Nat → Prop} {s t : Nat} {ts us ts' : List Tp} (x : DD w F G s t ts us) (hs : Sep F w w') (hd : DctP w' F' s ts') (hF : ∀ g, F' g → F g ∨ w.heap.size ≤ g) : DD w' F' G s t ts' us :=
  ⟨hd, x.two.of_blocks fun g hg => hs.block g (x.two.lt hg) (fun e => x.apart g e hg), fun k hk hG => by
    rcases hF k hk with e | e
    · exact x.apart k e hG
    · have := x.two.lt hG; omega⟩
end Dc
end Go.Proofs.Ytmlinoanpcbflaa

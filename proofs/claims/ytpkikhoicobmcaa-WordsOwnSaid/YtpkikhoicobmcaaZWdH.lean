/- Which rows of a set end at each place of a row. Condition: the set is of few rows, the row short. -/
import Derived.Test.YtpkikhoicobmcaaZWdF
import Derived.Laws.OwnMore
import Derived.Laws.MakeOwn
import Derived.Test.YtpkikhoicobmcaaZgAA
namespace Go.Proofs.Ytpkikhoicobmcaa
open Go.RowKit
set_option linter.unusedVariables false
open Tr Au Wd
theorem wpList_fits {P : Program} {w : World} {ops : Array Oper} {rest : List Oper} {o : Oper} {a : Act} {Q : Exit → Act → World → Prop} (hgd : o.guard = none) (s x : Operand) (t : TypeId)
    (ho : o.op = .call { callee := .builtin .append, args := #[s, x], argTypes := #[t, t] })
    (base : Nat) (e : TypeId) (i : TypeInfo) (ht : P.underlying t = some (.slice e)) (hi : P.info? e = some i) (hsize : i.size = 1) (g n cap : Nat) (xs : List Value) (hs : a.eval s = .slice (some ⟨g, 0, none⟩) n cap) (hown : w.ownsRow base e 1 (.slice (some ⟨g, 0, none⟩) n cap) n xs)
    (ad : Addr) (y : Value) (hx : a.eval x = .slice (some ad) 1 1) (hy : ∀ j u, [y][j]? = some u → w.cell? (ad.add j) = some u) (h1 : y.oneCell' = true) (hroom : n + 1 ≤ cap)
    (h : ∀ w', w'.ownsRow base e 1 (.slice (some ⟨g, 0, none⟩) (n + 1) cap) (n + 1) (xs ++ [y]) → w.grownBy w' (some g) → wpList P ops Q rest (a.put o.dst (.slice (some ⟨g, 0, none⟩) (n + 1) cap)) w') : wpList P ops Q (o :: rest) a w := by
  refine wpList_plain hgd fun K hK => ?_
  obtain ⟨w', hr, h2, h3⟩ := run_append_fits (P := P) w base t o.type e i 1 ht hi hsize g n cap xs hown ad 1 1 [y] rfl hy (fun u hu => by rw [List.mem_singleton.1 hu]; exact h1) hroom
  unfold Oper.wp execOp
  simp only [ho, resolve, invoke, builtin, Sem.run_bind, Sem.run_pure, Result.andThen_ok, List.map_toArray, List.map_cons, List.map_nil, hs, hx, hr]
  exact hK _ _ (h w' h2 h3)
theorem Try.info_ints : (Try.prog.info? 31).map (fun i => (i.zero, i.size, i.bytes)) = some (some (.slice none 0 0), 1, 24) := by kernel_rfl
namespace Wd
theorem fas_cells {w : World} {Ba ab xb : Nat} {rva : Nat → Value} {S : LL} (h : AuS w Ba ab xb rva S) {g : Nat} (hg : Fas ab xb rva S g) : ∃ cs t, w.heap[g]? = some (.cells cs t (0, 0)) ∧ (t = 101 ∨ t = 96 ∨ t = 3) := by
  rcases hg with rfl | rfl | ⟨i, h1, hi, hg⟩
  · exact ⟨_, _, AuX.box h, .inl rfl⟩
  · obtain ⟨cur, hc⟩ := own_type (AuX.row h) rfl
    exact ⟨_, _, hc, .inr (.inl rfl)⟩
  · obtain ⟨cur, hc⟩ := own_type (AuX.rows h i h1 hi) hg
    exact ⟨_, _, hc, .inr (.inr rfl)⟩
theorem sep_new {F G : Nat → Prop} {a b c : World} (h : Sep F a b) (k : Sep G b c) (hG : ∀ g, G g → F g ∨ a.heap.size ≤ g) : Sep F a c :=
  ⟨k.os.trans h.os, k.tape.trans h.tape, k.output.trans h.output, Nat.le_trans h.size k.size, fun i hi hz => (k.block i (Nat.lt_of_lt_of_le hi h.size) (fun e => by
    rcases hG i e with e | e
    · exact hz e
    · omega)).trans (h.block i hi hz)⟩
theorem sep_grown {a b : World} {g0 : Nat} (h : a.grownBy b (some g0)) : Sep (fun g => g = g0) a b := ⟨h.os, h.tape, h.output, h.size, fun k hk hz => h.block k hk fun e => hz (by injection e)⟩
/-- a loop of Scan under way -/
structure ScI (w wr : World) (B sb tb nb nc mb : Nat) (rv : Nat → Value) (S : LL) (Ba ab xb : Nat) (rva : Nat → Value) (cb gl n : Nat) (X : List Int) (k : Nat) (vs : List Value) : Prop where
  sc : ScX wr cb ab (deep (pathsOf S) (X.take k) : Nat)
  cbw : w.heap.size ≤ cb
  glw : w.heap.size ≤ gl
  ne : cb ≠ gl
  ncb : ¬ Fas ab xb rva S cb
  ngl : ¬ Fas ab xb rva S gl
  au : AuS wr Ba ab xb rva S
  apart : ∀ g, Fas ab xb rva S g → ¬ Fw sb tb nb mb (pathsOf S).length rv g
  ws : WsX wr B sb tb nb nc mb rv (.pointer (some ⟨ab, 0, none⟩)) S
  sep : Sep (fun g => g = sb) w wr
  own : wr.ownsRow w.heap.size 31 1 (.slice (some ⟨gl, 0, none⟩) k n) k vs
  rows : ∀ i, i < k → ∃ a c, vs.getD i (.bool false) = .slice a (fin S (X.take (i + 1))).length c ∧ ∀ w', Sep (fun g => g = cb ∨ g = gl ∨ g = sb) wr w' → SlK .i64 w' a (fin S (X.take (i + 1))).length (fin S (X.take (i + 1)))
/-- one round more -/
theorem ScI.next {w wr w9 w5 : World} {B sb tb nb nc mb : Nat} {rv : Nat → Value} {S : LL} {Ba ab xb : Nat} {rva : Nat → Value} {cb gl n : Nat} {X : List Int} {k : Nat} {vs : List Value} (h : ScI w wr B sb tb nb nc mb rv S Ba ab xb rva cb gl n X k vs) (hk : k < X.length) (hsb : sb < w.heap.size) {a : Option Addr} {c : Nat} {o : Obj}
    (ho : OwnK .i64 wr.heap.size w9 a (fin S (X.take (k + 1)))) (hc : ScX w9 cb ab (deep (pathsOf S) (X.take (k + 1)) : Nat)) (hs : Sep (fun g => g = cb) wr w9) (hgr : (w9.alloc o).grownBy w5 (some gl)) (hw : w5.ownsRow w.heap.size 31 1 (.slice (some ⟨gl, 0, none⟩) (k + 1) n) (k + 1) (vs ++ [.slice a (fin S (X.take (k + 1))).length c])) :
    ScI w w5 B sb tb nb nc mb rv S Ba ab xb rva cb gl n X (k + 1) (vs ++ [.slice a (fin S (X.take (k + 1))).length c]) := by
  have hgl : gl < wr.heap.size := (h.own.lt gl rfl).2
  have hcb := h.sc.lt
  have hzw := h.sep.size
  have h95 : Sep (fun g => g = gl) w9 w5 := (sep_of (box1T w9 o)).trans (sep_grown hgr)
  have hr5 : Sep (fun g => g = cb ∨ g = gl) wr w5 := (hs.mono fun g e => .inl e).trans (h95.mono fun g e => .inr e)
  have hnF : ∀ g, Fas ab xb rva S g → ¬ (g = cb ∨ g = gl) := fun g hg e => by
    rcases e with e | e
    · exact h.ncb (e ▸ hg)
    · exact h.ngl (e ▸ hg)
  have hnW : ∀ g, Fw sb tb nb mb (pathsOf S).length rv g → g < w.heap.size → ¬ (g = cb ∨ g = gl) := fun g _ hl e => by
    have h1 := h.cbw; have h2 := h.glw
    rcases e with e | e <;> omega
  have hvl : vs.length = k := by have := h.own.1; rw [Nat.mul_one] at this; exact this
  refine ⟨hc.of_block (h95.block cb (Nat.lt_of_lt_of_le hcb hs.size) h.ne), h.cbw, h.glw, h.ne, h.ncb, h.ngl, h.au.sep hr5 hnF, h.apart, h.ws.of_blocks fun g hgw => hr5.block g (h.ws.lt hgw).2 fun e => ?_, sep_new h.sep hr5 (fun g e => .inr (by have h1 := h.cbw; have h2 := h.glw; rcases e with e | e <;> omega)), hw, fun i hi => ?_⟩
  · rcases e with e | e
    · subst e
      rcases hgw with hg | hg | hg
      · obtain ⟨cs, t, e1, e2⟩ := fp_cells h.ws.tree hg
        have h1 : wr.heap[g]? = _ := h.sc
        rw [h1] at e1; injection e1 with e1; injection e1 with _ e1 _
        subst e1; revert e2; decide
      · have := h.cbw; omega
      · obtain ⟨D, ⟨es, clock, h1, r⟩, h2⟩ := h.ws.map
        have h3 : wr.heap[g]? = _ := h.sc
        rw [hg, h1] at h3; cases h3
    · subst e
      obtain ⟨cur, h3⟩ := own_type h.own rfl
      rcases hgw with hg | hg | hg
      · obtain ⟨cs, t, e1, e2⟩ := fp_cells h.ws.tree hg
        rw [h3] at e1; injection e1 with e1; injection e1 with _ e1 _
        subst e1; revert e2; decide
      · have := h.glw; omega
      · obtain ⟨D, ⟨es, clock, h1, r⟩, h2⟩ := h.ws.map
        rw [hg, h1] at h3; cases h3
  · by_cases hik : i < k
    · obtain ⟨a1, c1, e1, e2⟩ := h.rows i hik
      exact ⟨a1, c1, by rw [gD_app (by omega)]; exact e1, fun w' hs' => e2 w' ((hr5.mono fun g e => by rcases e with e | e; exact .inl e; exact .inr (.inl e)).trans hs')⟩
    · obtain rfl : i = k := by omega
      refine ⟨a, c, by rw [← hvl, gD_new], fun w' hs' => ?_⟩
      have h9 : Sep (fun g => g = cb ∨ g = gl ∨ g = sb) w9 w' := (h95.mono fun g e => .inr (.inl e)).trans hs'
      refine ⟨rfl, ?_⟩
      rcases ho with e | ⟨g, rfl, g1, g2, g3, _⟩
      · rw [e]; exact .inl rfl
      · exact .inr ⟨g, 0, rfl, fun j hj => h9.cell (by rintro (e | e | e) <;> omega) (by simpa using g3 j hj)⟩
end Wd
def ScanAt (w : World) (gl n : Nat) (S : LL) (X : List Int) : Prop := ∀ i, i < n → ∃ a c, w.cell? ⟨gl, i, none⟩ = some (.slice a (fin S (X.take (i + 1))).length c) ∧ SlK .i64 w a (fin S (X.take (i + 1))).length (fin S (X.take (i + 1)))
def ScanR (w : World) (B sb tb nb nc mb : Nat) (rv : Nat → Value) (S : LL) (X : List Int) (n : Nat) (e : Ending) (w' : World) : Prop := ∃ gl av', e = .returned (.slice (some ⟨gl, 0, none⟩) n n) ∧ (∀ w'', Sep (fun g => g = sb) w' w'' → ScanAt w'' gl n S X) ∧ WsA w' B sb tb nb nc mb rv av' S ∧ Sep (fun g => g = sb) w w'
section
variable {w : World} {B sb tb nb nc mb : Nat} {rv : Nat → Value} {av : Value} {S : LL}
theorem sci_done {w wr : World} {B sb tb nb nc mb : Nat} {rv : Nat → Value} {S : LL} {Ba ab xb : Nat} {rva : Nat → Value} {cb gl n : Nat} {X : List Int} {vs : List Value} (h : ScI w wr B sb tb nb nc mb rv S Ba ab xb rva cb gl n X n vs) (hsb : sb < w.heap.size) : ScanR w B sb tb nb nc mb rv S X n (.returned (.slice (some ⟨gl, 0, none⟩) n n)) wr := by
  refine ⟨gl, _, rfl, fun w'' hs i hi => ?_, ⟨h.ws, .inr ⟨Ba, ab, xb, rva, rfl, h.au, h.apart⟩⟩, h.sep⟩
  obtain ⟨a, c, e1, e2⟩ := h.rows i hi
  have hvl : vs.length = n := by have := h.own.1; rw [Nat.mul_one] at this; exact this
  refine ⟨a, c, hs.cell (fun e => by have := h.glw; omega) ?_, e2 w'' (hs.mono fun g e => .inr (.inr e))⟩
  rw [h.own.cellAt i (by omega), ← e1, List.getElem?_eq_getElem (by omega), gD (by omega)]
theorem scan_a {w w8 : World} {Ba ab xb cb n : Nat} {rva : Nat → Value} {X : List Int} {CS : Array Value} (hd0 : deep (pathsOf S) [] = 0) (hsb : sb < w.heap.size) (hsc : ScX w8 cb ab 0) (hcbw : w.heap.size ≤ cb) (hncb : ¬ Fas ab xb rva S cb) (hau : AuS w8 Ba ab xb rva S) (hap : ∀ g, Fas ab xb rva S g → ¬ Fw sb tb nb mb (pathsOf S).length rv g) (hws : WsX w8 B sb tb nb nc mb rv (.pointer (some ⟨ab, 0, none⟩)) S) (hsp : Sep (fun g => g = sb) w w8)
    (hown : ∀ W : World, w.heap.size ≤ W.heap.size → (W.alloc (.cells CS 31)).ownsRow w.heap.size 31 1 (.slice (some ⟨W.heap.size, 0, none⟩) 0 n) 0 []) : ScI w (w8.alloc (.cells CS 31)) B sb tb nb nc mb rv S Ba ab xb rva cb w8.heap.size n X 0 [] := by
  have hb := box1T w8 (.cells CS 31)
  exact ⟨by rw [List.take_zero, hd0]; exact hsc.later hb, hcbw, hsp.size, Nat.ne_of_lt hsc.lt, hncb, fun e => by have := (hau.lt e).2; omega, hau.later hb, hap, hws.later hb, hsp.trans (Sep.alloc _ w8 _), hown w8 hsp.size, fun i hi => by omega⟩
theorem scan_b {w w8 : World} {Ba ab xb cb n : Nat} {rva : Nat → Value} {X : List Int} {CS : Array Value} (hd0 : deep (pathsOf S) [] = 0) (hsb : sb < w.heap.size) (hsc : ScX w8 cb ab 0) (hcbw : (w.alloc (.cells CS 31)).heap.size ≤ cb) (hncb : ¬ Fas ab xb rva S cb) (hau : AuS w8 Ba ab xb rva S) (hap : ∀ g, Fas ab xb rva S g → ¬ Fw sb tb nb mb (pathsOf S).length rv g) (hws : WsX w8 B sb tb nb nc mb rv (.pointer (some ⟨ab, 0, none⟩)) S) (hsp : Sep (fun g => g = sb) (w.alloc (.cells CS 31)) w8)
    (hown : ∀ W : World, w.heap.size ≤ W.heap.size → (W.alloc (.cells CS 31)).ownsRow w.heap.size 31 1 (.slice (some ⟨W.heap.size, 0, none⟩) 0 n) 0 []) : ScI w w8 B sb tb nb nc mb rv S Ba ab xb rva cb w.heap.size n X 0 [] := by
  have h1 := World.alloc_heap_new w (.cells CS 31)
  have hlt : w.heap.size < (w.alloc (.cells CS 31)).heap.size := (Array.getElem?_eq_some_iff.1 h1).1
  have h2 := (hsp.block w.heap.size hlt (by omega)).trans h1
  refine ⟨by rw [List.take_zero, hd0]; exact hsc, by omega, Nat.le_refl _, by omega, hncb, fun e => ?_, hau, hap, hws, (Sep.alloc _ w _).trans hsp, own_of_block (hown w (Nat.le_refl _)) fun g hg => ?_, fun i hi => by omega⟩
  · obtain ⟨cs, t, e1, e2⟩ := fas_cells hau e
    rw [h2] at e1; injection e1 with e1; injection e1 with _ e1 _
    subst e1; revert e2; decide
  · have e : w.heap.size = g := by simpa [Value.ownBlock] using hg
    subst e
    exact hsp.block _ hlt (by omega)
set_option maxRecDepth 100000 in
set_option maxHeartbeats 4000000 in
theorem wScan_any (h : WsA w B sb tb nb nc mb rv av S) (hS : Ok S) (hl : S.length ≤ 100) (hd : ∀ r ∈ S, r.length ≤ 5) {a : Option Addr} {n c : Nat} {X : List Int} (hX : ∀ w', Sep (fun g => g = sb) w w' → SlK .u64 w' a n X) (hn : n ≤ 100) :
    Calls Try.prog 18 #[.pointer (some ⟨sb, 0, none⟩), .slice a n c] w (ScanR w B sb tb nb nc mb rv S X n) := by
  obtain ⟨i0, hi, hz0, hz1, hz2⟩ := info_parts Try.info_ints
  have hsb := (h.x.lt (.inr (.inl rfl))).2
  have hXl := (hX w (Sep.refl _ _)).1
  have hmk : ∀ W : World, (Instr.makeSlice 37 (.int .i64 0) (.int .i64 (n : Int))).run Try.prog W = .ok (.slice (some ⟨W.heap.size, 0, none⟩) 0 n) (W.alloc (.cells (madeCells #[.slice none 0 0] n) 31)) := fun W => by
    have h := run_make (P := Try.prog) W 37 31 i0 _ Try.underlying37 hi hz0 .i64 .i64 0 (n : Int) (Int.le_refl _) (by omega) (by rw [hz2]; omega) (by omega)
    rw [hz1, Int.toNat_natCast, Nat.mul_one] at h
    exact h
  have hown : ∀ W : World, w.heap.size ≤ W.heap.size → (W.alloc (.cells (madeCells #[.slice none 0 0] n) 31)).ownsRow w.heap.size 31 1 (.slice (some ⟨W.heap.size, 0, none⟩) 0 n) 0 [] := fun W hW =>
    ⟨rfl, .inr ⟨W.heap.size, n, _, rfl, hW, World.alloc_heap_new W _, Nat.zero_le _, by unfold maxLen; omega, by rw [size_madeCells]; simp, rfl⟩⟩
  obtain ⟨CS, hCS⟩ : ∃ CS, madeCells #[.slice none 0 0] n = CS := ⟨_, rfl⟩
  rw [hCS] at hmk hown
  have HOW := Lib.hid hown
  have HBG := Lib.hid (fun W (hb : Below w.heap.size w W) => wBegin_any (h.later hb) hS hl hd)
  have HPut := Lib.hid (fun (wr : World) (Ba ab xb cb : Nat) (rva : Nat → Value) (q : List Int) (hA : AuS wr Ba ab xb rva S) (hc : ScX wr cb ab (deep (pathsOf S) q : Nat)) (hcb : ¬ Fas ab xb rva S cb) (p : Int) => wPut_any hA hS hl hc hcb p)
  have HD0 := Lib.hid (show deep (pathsOf S) [] = 0 from deep_nil (paths_iw hS).inv)
  have HX := Lib.hid hX
  have HXL := Lib.hid hXl
  have HSB := Lib.hid hsb
  unfold BegS at HBG
  clear h hS hX hXl hsb hCS hown hd
  go_enter Try.func18, Try.ntmps18
  go_wp2_with fail
  go_cut [5, 6] from 9 to 13 (fun s5 s6 wx => ∃ Ba ab xb rva cb gl, s5 = .pointer (some ⟨cb, 0, none⟩) ∧ s6 = .slice (some ⟨gl, 0, none⟩) 0 n ∧ ScI w wx B sb tb nb nc mb rv S Ba ab xb rva cb gl n X 0 [])
  case first =>
    go_region_with (first | (go_at_call 22; refine (HBG.out _ (by first | exact Below.refl _ _ | exact (Below.refl _ _).drew | exact (box1T _ _) | exact (box1T _ _).drew)).mono ?_; rintro e w8 ⟨Ba, ab, xb, rva, cb, rfl, hsc, hcbw, hncb, hau, hap, hws, hsp⟩; have HSC := Lib.hid hsc; have HCBW := Lib.hid hcbw; have HNCB := Lib.hid hncb; have HAU := Lib.hid hau; have HAP := Lib.hid hap; have HWS := Lib.hid hws; have HSP := Lib.hid hsp; clear hsc hcbw hncb hau hap hws hsp))
    all_goals
      go_wp2_with fail
      go_meet
      case rel =>
        refine ⟨Ba, ab, xb, rva, cb, _, rfl, rfl, ?_⟩
        first
          | exact scan_a HD0.out HSB.out HSC.out (show w.heap.size ≤ cb from HCBW.out) HNCB.out HAU.out HAP.out HWS.out (by first | exact HSP.out | exact (Sep.drew _ _).trans HSP.out) HOW.out
          | exact scan_b HD0.out HSB.out HSC.out (show (w.alloc _).heap.size ≤ cb from HCBW.out) HNCB.out HAU.out HAP.out HWS.out (by first | exact HSP.out | exact (Sep.drew _ _).trans HSP.out) HOW.out
  case rest =>
    obtain ⟨Ba, ab, xb, rva, cb, gl, rfl, rfl, hsi⟩ := hcut
    have HSI := Lib.hid hsi
    clear hsi
    have hn0 : (0 : Int) ≤ (n : Int) := Int.natCast_nonneg _
    go_wp2_with fail
    go_loopw [6, 16] (fun s6 s16 wr => ∃ (k : Nat) (vs : List Value), k ≤ n ∧ s16 = .int .i64 k ∧ s6 = .slice (some ⟨gl, 0, none⟩) k n ∧ ScI w wr B sb tb nb nc mb rv S Ba ab xb rva cb gl n X k vs) (fun _ s16 _ => n - (intOf s16).toNat)
    case atStart => exact ⟨0, [], Nat.zero_le _, rfl, rfl, HSI.out⟩
    case round =>
      obtain ⟨k, vs, hk, rfl, rfl, hri⟩ := hrel
      have HRI := Lib.hid hri
      by_cases hlt : k < n
      · have h1 : (k : Int) < (n : Int) := by omega
        have hk0 : (0 : Int) ≤ (k : Int) := Int.natCast_nonneg _
        obtain ⟨b, o, rfl, hc⟩ := slk_at (HX.out wr hri.sep) (by omega)
        have hck := hc k hlt
        have htk := take_snocI (l := X) (i := k) (by rw [HXL.out]; exact hlt)
        have HPP := Lib.hid (HPut.out wr Ba ab xb cb rva (X.take k) hri.au hri.sc hri.ncb (X.getD k 0))
        rw [htk] at HPP
        obtain ⟨p, hp⟩ : ∃ p, X.getD k 0 = p := ⟨_, rfl⟩
        rw [hp] at HPP hck
        have HKX := Lib.hid (show k < X.length by rw [HXL.out]; exact hlt)
        obtain ⟨m, hm⟩ : ∃ m, (fin S (X.take (k + 1))).length = m := ⟨_, rfl⟩
        have HM := Lib.hid hm
        rw [hm] at HPP
        clear hri hc htk hp hm
        go_wp2_with (first
          | (go_at_call 24; refine HPP.out.mono ?_; rintro e w9 ⟨a9, c9, rfl, ho, hc9, hs9⟩; have HO := Lib.hid ho; have HC9 := Lib.hid hc9; have HS9 := Lib.hid hs9; have HOW9 := Lib.hid (own_of_block (w' := w9) HRI.out.own fun g hg => hs9.block g (HRI.out.own.lt g hg).2 (fun e => by have := HRI.out.ne; have e3 : gl = g := (by simpa [Value.ownBlock] using hg); omega)); clear ho hc9 hs9)
          | (at_builtin; refine wpList_fits rfl _ _ 37 rfl w.heap.size 31 i0 Try.underlying37 hi hz1 gl k n vs rfl (own_of_block HOW9.out fun g hg => Below.heap_alloc w9 _ g (HOW9.out.lt g hg).2) ⟨w9.heap.size, 0, none⟩ (.slice a9 m c9) rfl (one_newT2 _ _ _) rfl (by omega) ?_; intro w5 hown5 hgr5; have HOWN5 := Lib.hid hown5; have HGR5 := Lib.hid hgr5; clear hown5 hgr5))
        go_roundw
        case rel =>
          have h9 := HOWN5.out
          rw [← HM.out] at h9
          exact ⟨k + 1, _, by omega, by go_num, rfl, HRI.out.next HKX.out HSB.out HO.out HC9.out HS9.out HGR5.out h9⟩
        case measure => simp [intOf]; omega
      · obtain rfl : k = n := by omega
        have h1 : ¬ (k : Int) < (k : Int) := by omega
        have HF := Lib.hid (sci_done hri HSB.out)
        clear hri
        go_wp2
        go_ret
        exact HF.out
end
end Go.Proofs.Ytpkikhoicobmcaa

/- Which row of a width ends at each place. Condition: the set is of few rows, the row of at most twelve numbers. -/
import Derived.Test.YtpkikhoicobmcaaZWdH
import Derived.Test.YtpkikhoicobmcaaZWdG
namespace Go.Proofs.Ytpkikhoicobmcaa
open Go.RowKit
set_option linter.unusedVariables false
open Tr Au Wd
theorem zero_unit (w : World) : (zeroValue 66).run Try.prog w = .ok (.agg #[]) w := by kernel_rfl
namespace Wd
theorem dep_deep {S : LL} (hS : Ok S) (l : List Int) : depV (pathsOf S) (deep (pathsOf S) l : Nat) = ((suf (pathsOf S) l).length : Int) := by
  have hI := (paths_iw hS).inv
  have hd := deep_lt hI l
  unfold depV; rw [if_neg (by unfold out; omega), Int.toNat_natCast, deep_at hI]
theorem fall_deep {S : LL} (hS : Ok S) {v : Nat} {l : List Int} (h : (suf (pathsOf S) (lastK (v + 1) l)).length = v + 1) : fallV (pathsOf S) (deep (pathsOf S) (lastK (v + 1) l) : Nat) = (deep (pathsOf S) (lastK v l) : Nat) := by
  have hI := (paths_iw hS).inv
  have hd := deep_lt hI (lastK (v + 1) l)
  have h1 : 1 ≤ deep (pathsOf S) (lastK (v + 1) l) := by
    rcases Nat.eq_zero_or_pos (deep (pathsOf S) (lastK (v + 1) l)) with e | e
    · have := deep_at hI (lastK (v + 1) l)
      rw [e, hI.root] at this
      rw [← this] at h; simp at h
    · exact e
  rw [fall_at h1 hd, deep_at hI]
  have := lab_fall hI v l h
  unfold deep; rw [this]
theorem keep_deep {S : LL} (hS : Ok S) {v : Nat} {l : List Int} (h : (suf (pathsOf S) (lastK (v + 1) l)).length ≠ v + 1) : deep (pathsOf S) (lastK (v + 1) l) = deep (pathsOf S) (lastK v l) := by
  have := lab_keep (paths_iw hS).inv v l h
  unfold deep; rw [this]
theorem num_deep {S : LL} (hS : Ok S) (l : List Int) : numV S (deep (pathsOf S) l : Nat) = findV S (suf (pathsOf S) l) := by
  have hI := (paths_iw hS).inv
  rw [numV_at hS (deep_lt hI l), deep_at hI]
/-- the row of labels under way -/
structure LbI (w wr : World) (S : LL) (g n : Nat) (X : List Int) (W : Int) (k : Nat) : Prop where
  lo : w.heap.size ≤ g
  lt : g < wr.heap.size
  old : ∀ i, i < k → wr.cell? ⟨g, i, none⟩ = some (.int .i64 (labV S (X.take (i + 1)) W))
  new : ∀ i, k ≤ i → i < n → wr.cell? ⟨g, i, none⟩ = some (.int .i64 (-1))
  fr : ∀ i, wr.frozen? ⟨g, i, none⟩ = false
theorem LbI.later {w wr w' : World} {S : LL} {g n : Nat} {X : List Int} {W : Int} {k : Nat} (h : LbI w wr S g n X W k) (hb : Below wr.heap.size wr w') : LbI w w' S g n X W k :=
  ⟨h.lo, Nat.lt_of_lt_of_le h.lt hb.size, fun i hi => cell_later hb (h.old i hi), fun i h1 h2 => cell_later hb (h.new i h1 h2), fun i => (hb.frozen (p := ⟨g, i, none⟩) h.lt).trans (h.fr i)⟩
theorem LbI.keep {w wr : World} {S : LL} {g n : Nat} {X : List Int} {W : Int} {k : Nat} (h : LbI w wr S g n X W k) (hk : k < n) (he : labV S (X.take (k + 1)) W = -1) : LbI w wr S g n X W (k + 1) :=
  ⟨h.lo, h.lt, fun i hi => by
    by_cases e : i < k
    · exact h.old i e
    · obtain rfl : i = k := by omega
      rw [he]; exact h.new i (Nat.le_refl _) hk, fun i h1 h2 => h.new i (by omega) h2, h.fr⟩
theorem LbI.put {w wr : World} {S : LL} {g n : Nat} {X : List Int} {W : Int} {k : Nat} (h : LbI w wr S g n X W k) (hk : k < n) {y : Int} (he : labV S (X.take (k + 1)) W = y) : LbI w (wr.setCell ⟨g, k, none⟩ (.int .i64 y)) S g n X W (k + 1) := by
  have hne : ∀ i, i ≠ k → (⟨g, k, none⟩ : Addr) ≠ ⟨g, i, none⟩ := fun i hi e => hi (by injection e with _ e _; exact e.symm)
  refine ⟨h.lo, by simpa using h.lt, fun i hi => ?_, fun i h1 h2 => ?_, fun i => by rw [World.frozen?_setCell]; exact h.fr i⟩
  · by_cases e : i = k
    · subst e
      rw [World.cell?_setCell_same (h := h.new i (Nat.le_refl _) hk), he]
    · rw [World.cell?_setCell_other (h := hne i e)]; exact h.old i (by omega)
  · rw [World.cell?_setCell_other (h := hne i (by omega))]; exact h.new i (by omega) h2
/-- a run of Label under way -/
structure LaI (w wr : World) (B sb tb nb nc mb : Nat) (rv : Nat → Value) (S : LL) (Ba ab xb : Nat) (rva : Nat → Value) (g n : Nat) (X : List Int) (W : Int) (k : Nat) : Prop where
  lb : LbI w wr S g n X W k
  ng : ¬ Fas ab xb rva S g
  au : AuS wr Ba ab xb rva S
  apart : ∀ g, Fas ab xb rva S g → ¬ Fw sb tb nb mb (pathsOf S).length rv g
  ws : WsX wr B sb tb nb nc mb rv (.pointer (some ⟨ab, 0, none⟩)) S
  fw : ∀ g, Fw sb tb nb mb (pathsOf S).length rv g → g < w.heap.size
  sep : Sep (fun g => g = sb) w wr
section
variable {w wr w' : World} {B sb tb nb nc mb : Nat} {rv : Nat → Value} {S : LL} {Ba ab xb : Nat} {rva : Nat → Value} {g n : Nat} {X : List Int} {W : Int} {k : Nat}
theorem LaI.later (h : LaI w wr B sb tb nb nc mb rv S Ba ab xb rva g n X W k) (hb : Below wr.heap.size wr w') : LaI w w' B sb tb nb nc mb rv S Ba ab xb rva g n X W k :=
  ⟨h.lb.later hb, h.ng, h.au.later hb, h.apart, h.ws.later hb, h.fw, h.sep.trans (sep_of hb)⟩
theorem LaI.keep (h : LaI w wr B sb tb nb nc mb rv S Ba ab xb rva g n X W k) (hk : k < n) (he : labV S (X.take (k + 1)) W = -1) : LaI w wr B sb tb nb nc mb rv S Ba ab xb rva g n X W (k + 1) :=
  ⟨h.lb.keep hk he, h.ng, h.au, h.apart, h.ws, h.fw, h.sep⟩
theorem LaI.put (h : LaI w wr B sb tb nb nc mb rv S Ba ab xb rva g n X W k) (hk : k < n) {y : Int} (he : labV S (X.take (k + 1)) W = y) : LaI w (wr.setCell ⟨g, k, none⟩ (.int .i64 y)) B sb tb nb nc mb rv S Ba ab xb rva g n X W (k + 1) := by
  have hs : Sep (fun x => x = g) wr (wr.setCell ⟨g, k, none⟩ (.int .i64 y)) := Sep.setCell (Z := fun x => x = g) wr rfl _
  refine ⟨h.lb.put hk he, h.ng, h.au.sep hs fun x hx e => h.ng (e ▸ hx), h.apart, h.ws.of_blocks fun x hx => hs.block x (h.ws.lt hx).2 fun e => ?_, h.fw, sep_new h.sep hs fun x e => .inr (by rw [e]; exact h.lb.lo)⟩
  have h1 := h.fw x hx
  have h2 := h.lb.lo
  omega
end
end Wd
def LabR (w : World) (B sb tb nb nc mb : Nat) (rv : Nat → Value) (S : LL) (X : List Int) (W : Int) (n : Nat) (e : Ending) (w' : World) : Prop := ∃ g av', e = .returned (.slice (some ⟨g, 0, none⟩) n n) ∧ (∀ w'', Sep (fun g => g = sb) w' w'' → ∀ i, i < n → w''.cell? ⟨g, i, none⟩ = some (.int .i64 (labV S (X.take (i + 1)) W))) ∧ WsA w' B sb tb nb nc mb rv av' S ∧ Sep (fun g => g = sb) w w'
section
variable {w : World} {B sb tb nb nc mb : Nat} {rv : Nat → Value} {av : Value} {S : LL}
theorem lai_done {wr : World} {Ba ab xb : Nat} {rva : Nat → Value} {g n : Nat} {X : List Int} {W : Int} (h : LaI w wr B sb tb nb nc mb rv S Ba ab xb rva g n X W n) : LabR w B sb tb nb nc mb rv S X W n (.returned (.slice (some ⟨g, 0, none⟩) n n)) wr := by
  refine ⟨g, _, rfl, fun w'' hs i hi => hs.cell (fun e => ?_) (h.lb.old i hi), ⟨h.ws, .inr ⟨Ba, ab, xb, rva, rfl, h.au, h.apart⟩⟩, h.sep⟩
  have h1 := h.fw sb (.inr (.inl rfl))
  have h2 := h.lb.lo
  omega
theorem rep_lbi {w w1 : World} {S : LL} {g n : Nat} {X : List Int} {W : Int} (hlo : w.heap.size ≤ g) (hg : w1.heap[g]? = some (.cells ((List.replicate n (-1 : Int)).map (Value.int .i64)).toArray 3 (0, 0))) : LbI w w1 S g n X W 0 :=
  ⟨hlo, (Array.getElem?_eq_some_iff.1 hg).1, fun i hi => by omega, fun i _ h2 => by simp [World.cell?, hg, h2], fun i => by simp [World.frozen?, hg]⟩
theorem la_start {w W2 w3 : World} {Ba ab xb : Nat} {rva : Nat → Value} {g n : Nat} {X : List Int} {W : Int} (hb : Below w.heap.size w W2) (hlb : LbI w W2 S g n X W 0) (hA : AuS w3 Ba ab xb rva S) (hn : ∀ g, Fas ab xb rva S g → ¬ Fw sb tb nb mb (pathsOf S).length rv g) (hx : WsX w3 B sb tb nb nc mb rv (.pointer (some ⟨ab, 0, none⟩)) S) (hs : Sep (fun g => g = sb) W2 w3) (hlo : ∀ g, Fas ab xb rva S g → g < w.heap.size ∨ W2.heap.size ≤ g) (hfw : ∀ g, Fw sb tb nb mb (pathsOf S).length rv g → g < w.heap.size) : LaI w w3 B sb tb nb nc mb rv S Ba ab xb rva g n X W 0 := by
  have hne : ¬ g = sb := fun e => by have h1 := hfw sb (.inr (.inl rfl)); have h2 := hlb.lo; omega
  refine ⟨⟨hlb.lo, Nat.lt_of_lt_of_le hlb.lt hs.size, fun i hi => by omega, fun i h1 h2 => hs.cell hne (hlb.new i h1 h2), fun i => (hs.frozen (p := none) hne hlb.lt).trans (hlb.fr i)⟩, fun e => ?_, hA, hn, hx, hfw, (sep_of hb).trans hs⟩
  have h1 := hlb.lo
  have h2 := hlb.lt
  rcases hlo g e with h | h <;> omega
theorem finder_mid {w0 : World} (h : WsA w0 B sb tb nb nc mb rv av S) (hb : Below w0.heap.size w0 w) (hS : Ok S) (hl : S.length ≤ 100) (hd : ∀ r ∈ S, r.length ≤ 5) : Calls Try.prog 34 #[.pointer (some ⟨sb, 0, none⟩)] w fun e w' => ∃ Ba ab xb rva, e = .returned (.pointer (some ⟨ab, 0, none⟩)) ∧ AuS w' Ba ab xb rva S ∧ (∀ g, Fas ab xb rva S g → ¬ Fw sb tb nb mb (pathsOf S).length rv g) ∧ WsX w' B sb tb nb nc mb rv (.pointer (some ⟨ab, 0, none⟩)) S ∧ Sep (fun g => g = sb) w w' ∧ (∀ g, Fas ab xb rva S g → g < w0.heap.size ∨ w.heap.size ≤ g) := by
  rcases h.au with rfl | ⟨Ba, ab, xb, rva, rfl, hA, hn⟩
  · refine (finder_new (h.x.later hb) hS hl hd).mono ?_
    rintro e w' ⟨Ba, ab, xb, rva, rfl, hA, hlo, hx, hs⟩
    exact ⟨Ba, ab, xb, rva, rfl, hA, fun g hg hw => by have := hlo g hg; have := ((h.x.later hb).lt hw).2; omega, hx, hs, fun g hg => .inr (hlo g hg)⟩
  · refine (finder_old (h.x.later hb)).mono ?_
    rintro e w' ⟨rfl, rfl⟩
    exact ⟨Ba, ab, xb, rva, rfl, hA.later hb, hn, h.x.later hb, Sep.refl _ _, fun g hg => .inl (hA.lt hg).2⟩
set_option maxRecDepth 100000 in
set_option maxHeartbeats 4000000 in
theorem wLabel_any (h : WsA w B sb tb nb nc mb rv av S) (hS : Ok S) (hl : S.length ≤ 100) (hd : ∀ r ∈ S, r.length ≤ 5) {a : Option Addr} {n c : Nat} {X : List Int} (hX : ∀ w', Sep (fun g => g = sb) w w' → SlK .u64 w' a n X) (hn : n ≤ 12) {W : Int} (hW : -9223372036854775808 ≤ W ∧ W ≤ 9223372036854775807) :
    Calls Try.prog 20 #[.pointer (some ⟨sb, 0, none⟩), .slice a n c, .int .i64 W] w (LabR w B sb tb nb nc mb rv S X W n) := by
  obtain ⟨c0, c1, c2, c3⟩ := h.x.cells
  obtain ⟨D, hown, hD⟩ := h.x.map
  have hkey : keyOf Try.prog 3 (.int .i64 W) = some (.int .i64 W) := Go.Maps.keyOf_int_mk Try.underlying3 (by simp [Lit.wf, IntKind.min, IntKind.max, IntKind.bits, IntKind.signed]; omega)
  have hb1 := box1T w (.cells #[.int .i64 (-1)] 3)
  have hx1 : (w.alloc (.cells #[.int .i64 (-1)] 3)).cell? ⟨w.heap.size, 0, none⟩ = some (.int .i64 (-1)) := by simp [go_sem]
  have HR := Lib.hid (repeat_any hn hx1)
  unfold RepR at HR
  have HWS := Lib.hid h
  have HB1 := Lib.hid hb1
  have HS := Lib.hid hS
  have HDP := Lib.hid hd
  have HX := Lib.hid hX
  have HKEY := Lib.hid hkey
  have HD := Lib.hid (hD W)
  have HOWN := Lib.hid hown
  have hXl := (hX w (Sep.refl _ _)).1
  have HXL := Lib.hid hXl
  have hn0 : (0 : Int) ≤ (n : Int) := Int.natCast_nonneg _
  clear hb1 hx1 hX hkey hown hXl hD
  by_cases hw : hasW S W = true
  · rw [hw] at HD
    obtain ⟨r, hrS, hrW⟩ := hasW_iff.1 hw
    obtain ⟨v, hv⟩ : ∃ v, r.length = v + 1 := by
      cases r with
      | nil => exact absurd hrS hS.ne
      | cons => exact ⟨_, rfl⟩
    have hWv : W = ((v + 1 : Nat) : Int) := by rw [← hrW, hv]
    have HWV := Lib.hid hWv
    have HFM := Lib.hid (fun W' (hb : Below w.heap.size w W') => finder_mid h hb hS hl hd)
    have HFW := Lib.hid (fun g hg => (h.x.lt (g := g) hg).2)
    have HD0 := Lib.hid (show deep (pathsOf S) (lastK (v + 1) (X.take 0)) = 0 from by rw [List.take_zero, show lastK (v + 1) [] = [] from by unfold lastK; simp]; exact deep_nil (paths_iw hS).inv)
    clear h hd hw hrS hrW hv hWv
    go_enter Try.func20, Try.ntmps20
    go_upto_region 2 with (go_at_call 33; refine HR.out.mono ?_; rintro e w1 ⟨g, rfl, hg, hgr, hb⟩; have HLB := Lib.hid (rep_lbi (S := S) (X := X) (W := W) (w := w) (Nat.le_trans (by simp) hg) hgr); have HB := Lib.hid (bel_step HB1.out hb); clear hg hgr hb)
    have d2 := cell_later HB.out c2
    have HOM : Hid (w1.ownsMap Try.prog 3 (unitElem (H := Unit)) mb S.length D) := Lib.hid (by
      obtain ⟨es, clock, h1, r⟩ := HOWN.out
      exact ⟨es, clock, (HB.out.block mb HOWN.out.lt).trans h1, r⟩)
    have HB2 := Lib.hid (bel_step HB.out (box1T w1 (.cells #[] 66)))
    have HLB2 := Lib.hid (HLB.out.later (box1T w1 (.cells #[] 66)))
    clear c0 c1 c2 c3
    go_wp2_with (first
      | (at_lookup; refine wpList_lookup_own_unit _ rfl _ _ 59 rfl 3 66 kint Try.underlying59 (zero_unit _) mb S.length D rfl HOM.out _ _ rfl HKEY.out ?_; rw [HD.out])
      | (go_at_call 34; refine (HFM.out _ HB2.out).mono ?_; rintro e w3 ⟨Ba, ab, xb, rva, rfl, hA, hn3, hx3, hs3, hlo⟩; have HLA := Lib.hid (la_start HB2.out HLB2.out hA hn3 hx3 hs3 hlo HFW.out); clear hA hn3 hx3 hs3 hlo))
    go_loopw [11, 34] (fun s11 s34 wr => ∃ k : Nat, k ≤ n ∧ s34 = .int .i64 (k : Int) ∧ s11 = .int .i64 (deep (pathsOf S) (lastK (v + 1) (X.take k)) : Nat) ∧ LaI w wr B sb tb nb nc mb rv S Ba ab xb rva g n X W k) (fun _ s34 _ => n - (intOf s34).toNat)
    case atStart => exact ⟨0, Nat.zero_le _, rfl, by rw [HD0.out]; rfl, HLA.out⟩
    case round =>
      obtain ⟨k, hk, rfl, rfl, hla⟩ := hrel
      have HLk := Lib.hid hla
      clear hla
      by_cases hlt : k < n
      · have h1 : (k : Int) < (n : Int) := by omega
        have hk0 : (0 : Int) ≤ (k : Int) := Int.natCast_nonneg _
        obtain ⟨b, o, rfl, hc⟩ := slk_at (HX.out wr HLk.out.sep) (by omega)
        have hck := hc k hlt
        have htk := take_snocI (l := X) (i := k) (by rw [HXL.out]; exact hlt)
        obtain ⟨p, hp⟩ : ∃ p, X.getD k 0 = p := ⟨_, rfl⟩
        rw [hp] at hck htk
        obtain ⟨e0, _, _, _⟩ := HLk.out.ws.cells
        have hI := paths_iw HS.out
        have hln := lab_node HS.out v (X.take (k + 1))
        have hdd0 := dep_deep HS.out (lastK (v + 1) (X.take k))
        have hdd2 := dep_deep HS.out (lastK (v + 1) (X.take (k + 1)))
        have hnd2 := num_deep HS.out (lastK (v + 1) (X.take (k + 1)))
        have hnx : nextV (pathsOf S) (deep (pathsOf S) (lastK v (X.take k)) : Nat) p = (deep (pathsOf S) (lastK (v + 1) (X.take (k + 1))) : Nat) := by
          rw [next_run hI.inv, lastK_snoc, htk]
        have HD1 := Lib.hid (fun W' (hb : Below wr.heap.size wr W') => depth_tr (HLk.out.ws.tree.later hb) (deep (pathsOf S) (lastK (v + 1) (X.take k)) : Nat))
        rw [hdd0] at HD1
        have HD2 := Lib.hid (fun W' (hb : Below wr.heap.size wr W') => depth_tr (HLk.out.ws.tree.later hb) (deep (pathsOf S) (lastK (v + 1) (X.take (k + 1))) : Nat))
        rw [hdd2] at HD2
        have HNx := Lib.hid (fun W' (hb : Below wr.heap.size wr W') => next_P (HLk.out.au.later hb) hI (deep (pathsOf S) (lastK v (X.take k)) : Nat) p)
        rw [hnx] at HNx
        have HNu := Lib.hid (fun W' (hb : Below wr.heap.size wr W') => wNumber_any (HLk.out.ws.later hb) HS.out (by omega) (deep (pathsOf S) (lastK (v + 1) (X.take (k + 1))) : Nat))
        rw [hnd2] at HNu
        have HFa := Lib.hid (fun W' (hb : Below wr.heap.size wr W') => fall_P (HLk.out.au.later hb) hI (deep (pathsOf S) (lastK (v + 1) (X.take k)) : Nat))
        have HFV := Lib.hid (fun h => fall_deep HS.out (v := v) (l := X.take k) h)
        have HKV := Lib.hid (fun h => keep_deep HS.out (v := v) (l := X.take k) h)
        obtain ⟨d0, hd0⟩ : ∃ d0, (suf (pathsOf S) (lastK (v + 1) (X.take k))).length = d0 := ⟨_, rfl⟩
        obtain ⟨d2, hd2⟩ : ∃ d2, (suf (pathsOf S) (lastK (v + 1) (X.take (k + 1)))).length = d2 := ⟨_, rfl⟩
        obtain ⟨y, hy⟩ : ∃ y, findV S (suf (pathsOf S) (lastK (v + 1) (X.take (k + 1)))) = y := ⟨_, rfl⟩
        obtain ⟨z2, hz2⟩ : ∃ z2 : Int, ((deep (pathsOf S) (lastK (v + 1) (X.take (k + 1))) : Nat) : Int) = z2 := ⟨_, rfl⟩
        have HZ2 := Lib.hid hz2
        rw [hd2, hy] at hln
        rw [← HWV.out] at hln
        rw [hd0] at HD1 HFV HKV
        rw [hd2] at HD2
        rw [hy] at HNu
        rw [hz2] at HD2 HNx HNu
        clear hc hp hdd0 hdd2 hnd2 hnx hd0 hd2 hy hz2 htk hI
        by_cases g0 : d0 = v + 1
        · have q0 := HFV.out g0
          rw [q0] at HFa
          obtain ⟨z0, hz0⟩ : ∃ z0 : Int, ((deep (pathsOf S) (lastK (v + 1) (X.take k)) : Nat) : Int) = z0 := ⟨_, rfl⟩
          obtain ⟨z1, hz1⟩ : ∃ z1 : Int, ((deep (pathsOf S) (lastK v (X.take k)) : Nat) : Int) = z1 := ⟨_, rfl⟩
          rw [hz0] at HD1 HFa ⊢
          rw [hz1] at HFa HNx
          have f0 : ((d0 : Int) == W) = true := by rw [beq_iff_eq, HWV.out, g0]
          have f1 : (d0 : Int) = W := by rw [HWV.out, g0]
          clear g0 q0 hz0 hz1 f1
          by_cases g2 : d2 = v + 1
          · have HLAB := Lib.hid (show labV S (X.take (k + 1)) W = y by rw [hln, if_pos g2])
            have f2 : ((d2 : Int) == W) = true := by rw [beq_iff_eq, HWV.out, g2]
            clear g2 hln
            go_wp2_with fail
            refine (HD1.out _ (Below.refl _ _)).mono ?_
            rintro e w2 ⟨rfl, hb2⟩
            have HB2 := Lib.hid hb2
            have e02 := cell_later HB2.out e0
            clear hb2
            go_wp2_with fail
            refine (HFa.out _ HB2.out).mono ?_
            rintro e w3 ⟨rfl, hb3⟩
            have HB3 := Lib.hid (bel_step HB2.out hb3)
            have e03 := cell_later HB3.out e0
            clear hb3
            go_wp2_with fail
            refine (HNx.out _ HB3.out).mono ?_
            rintro e w4 ⟨rfl, hb4⟩
            have HB4 := Lib.hid (bel_step HB3.out hb4)
            have e04 := cell_later HB4.out e0
            clear hb4
            go_wp2_with fail
            refine (HD2.out _ HB4.out).mono ?_
            rintro e w5 ⟨rfl, hb5⟩
            have HB5 := Lib.hid (bel_step HB4.out hb5)
            clear hb5
            go_wp2_with fail
            refine (HNu.out _ HB5.out).mono ?_
            rintro e w6 ⟨rfl, hb6⟩
            have HB6 := Lib.hid (bel_step HB5.out hb6)
            have s1 := (HLk.out.later HB6.out).lb.new k (Nat.le_refl _) hlt
            have s2 := (HLk.out.later HB6.out).lb.fr k
            clear hb6
            go_wp2_with fail
            go_roundw
            case rel => exact ⟨k + 1, by omega, by go_num, by rw [HZ2.out], (HLk.out.later HB6.out).put hlt HLAB.out⟩
            case measure => simp [intOf]; omega
          · have HLAB := Lib.hid (show labV S (X.take (k + 1)) W = -1 by rw [hln, if_neg g2])
            have f2 : ((d2 : Int) == W) = false := by rw [beq_eq_false_iff_ne, HWV.out]; omega
            clear g2 hln
            go_wp2_with fail
            refine (HD1.out _ (Below.refl _ _)).mono ?_
            rintro e w2 ⟨rfl, hb2⟩
            have HB2 := Lib.hid hb2
            have e02 := cell_later HB2.out e0
            clear hb2
            go_wp2_with fail
            refine (HFa.out _ HB2.out).mono ?_
            rintro e w3 ⟨rfl, hb3⟩
            have HB3 := Lib.hid (bel_step HB2.out hb3)
            have e03 := cell_later HB3.out e0
            clear hb3
            go_wp2_with fail
            refine (HNx.out _ HB3.out).mono ?_
            rintro e w4 ⟨rfl, hb4⟩
            have HB4 := Lib.hid (bel_step HB3.out hb4)
            have e04 := cell_later HB4.out e0
            clear hb4
            go_wp2_with fail
            refine (HD2.out _ HB4.out).mono ?_
            rintro e w5 ⟨rfl, hb5⟩
            have HB5 := Lib.hid (bel_step HB4.out hb5)
            clear hb5
            go_wp2_with fail
            go_roundw
            case rel => exact ⟨k + 1, by omega, by go_num, by rw [HZ2.out], (HLk.out.later HB5.out).keep hlt HLAB.out⟩
            case measure => simp [intOf]; omega
        · have q0 := HKV.out g0
          obtain ⟨z1, hz1⟩ : ∃ z1 : Int, ((deep (pathsOf S) (lastK v (X.take k)) : Nat) : Int) = z1 := ⟨_, rfl⟩
          rw [q0, hz1] at HD1
          rw [q0, hz1]
          rw [hz1] at HNx
          have f0 : ((d0 : Int) == W) = false := by rw [beq_eq_false_iff_ne, HWV.out]; omega
          clear g0 q0 hz1 HFa
          by_cases g2 : d2 = v + 1
          · have HLAB := Lib.hid (show labV S (X.take (k + 1)) W = y by rw [hln, if_pos g2])
            have f2 : ((d2 : Int) == W) = true := by rw [beq_iff_eq, HWV.out, g2]
            clear g2 hln
            go_wp2_with fail
            refine (HD1.out _ (Below.refl _ _)).mono ?_
            rintro e w2 ⟨rfl, hb2⟩
            have HB2 := Lib.hid hb2
            have e02 := cell_later HB2.out e0
            clear hb2
            go_wp2_with fail
            refine (HNx.out _ HB2.out).mono ?_
            rintro e w4 ⟨rfl, hb4⟩
            have HB4 := Lib.hid (bel_step HB2.out hb4)
            have e04 := cell_later HB4.out e0
            clear hb4
            go_wp2_with fail
            refine (HD2.out _ HB4.out).mono ?_
            rintro e w5 ⟨rfl, hb5⟩
            have HB5 := Lib.hid (bel_step HB4.out hb5)
            clear hb5
            go_wp2_with fail
            refine (HNu.out _ HB5.out).mono ?_
            rintro e w6 ⟨rfl, hb6⟩
            have HB6 := Lib.hid (bel_step HB5.out hb6)
            have s1 := (HLk.out.later HB6.out).lb.new k (Nat.le_refl _) hlt
            have s2 := (HLk.out.later HB6.out).lb.fr k
            clear hb6
            go_wp2_with fail
            go_roundw
            case rel => exact ⟨k + 1, by omega, by go_num, by rw [HZ2.out], (HLk.out.later HB6.out).put hlt HLAB.out⟩
            case measure => simp [intOf]; omega
          · have HLAB := Lib.hid (show labV S (X.take (k + 1)) W = -1 by rw [hln, if_neg g2])
            have f2 : ((d2 : Int) == W) = false := by rw [beq_eq_false_iff_ne, HWV.out]; omega
            clear g2 hln
            go_wp2_with fail
            refine (HD1.out _ (Below.refl _ _)).mono ?_
            rintro e w2 ⟨rfl, hb2⟩
            have HB2 := Lib.hid hb2
            have e02 := cell_later HB2.out e0
            clear hb2
            go_wp2_with fail
            refine (HNx.out _ HB2.out).mono ?_
            rintro e w4 ⟨rfl, hb4⟩
            have HB4 := Lib.hid (bel_step HB2.out hb4)
            have e04 := cell_later HB4.out e0
            clear hb4
            go_wp2_with fail
            refine (HD2.out _ HB4.out).mono ?_
            rintro e w5 ⟨rfl, hb5⟩
            have HB5 := Lib.hid (bel_step HB4.out hb5)
            clear hb5
            go_wp2_with fail
            go_roundw
            case rel => exact ⟨k + 1, by omega, by go_num, by rw [HZ2.out], (HLk.out.later HB5.out).keep hlt HLAB.out⟩
            case measure => simp [intOf]; omega
      · obtain rfl : k = n := by omega
        have h1 : ¬ (k : Int) < (k : Int) := by omega
        have HF := Lib.hid (lai_done HLk.out)
        go_wp2
        go_ret
        exact HF.out
  · have hwf : hasW S W = false := by cases hq : hasW S W with | true => exact absurd hq hw | false => rfl
    rw [hwf] at HD
    clear h hS hd hw
    go_enter Try.func20, Try.ntmps20
    go_upto_region 2 with (go_at_call 33; refine HR.out.mono ?_; rintro e w1 ⟨g, rfl, hg, hgr, hb⟩; have HLB := Lib.hid (rep_lbi (S := S) (X := X) (W := W) (w := w) (Nat.le_trans (by simp) hg) hgr); have HB := Lib.hid (bel_step HB1.out hb); clear hg hgr hb)
    have d2 := cell_later HB.out c2
    have HOM : Hid (w1.ownsMap Try.prog 3 (unitElem (H := Unit)) mb S.length D) := Lib.hid (by
      obtain ⟨es, clock, h1, r⟩ := HOWN.out
      exact ⟨es, clock, (HB.out.block mb HOWN.out.lt).trans h1, r⟩)
    clear c0 c1 c2 c3
    go_wp2_with (at_lookup; refine wpList_lookup_own_unit _ rfl _ _ 59 rfl 3 66 kint Try.underlying59 (zero_unit _) mb S.length D rfl HOM.out _ _ rfl HKEY.out ?_; rw [HD.out])
    go_ret
    have hbe := bel_step HB.out (box1T w1 (.cells #[] 66))
    refine ⟨g, av, rfl, fun w'' hs i hi => ?_, HWS.out.later hbe, sep_of hbe⟩
    rw [lab_no hwf]
    have hlt := (HWS.out.x.lt (.inr (.inl rfl))).2
    exact hs.cell (fun e => by have := HLB.out.lo; omega) (cell_later (box1T w1 (.cells #[] 66)) (HLB.out.new i (Nat.zero_le _) hi))
end
end Go.Proofs.Ytpkikhoicobmcaa

/- A reader of bytes, its row and its samples, told by a plain reader; a new one; over any memory. Condition: its head may be. -/
import Derived.Test.YtkjkepnailamnaaGreatZgAF
import Derived.Test.YtkjkepnailamnaaGreatZgAB
import Derived.Test.YtkjkepnailamnaaGreatZRwC
namespace Go.Proofs.YtkjkepnailamnaaGreat
open Go.RowKit
set_option linter.unusedVariables false
def Rw.nx (h : Hd.H) (r : List Int) (b : Nat) : Value := if h.kd = 4 then rwE b else if 255 < h.m ∧ Rw.rest h r = [] then rwH b else rwL b
def Rw.Hi (h : Hd.H) (r : List Int) (n : Int) : Prop := (h.m ≤ 255 → n = 0) ∧ (∀ y, Rw.rest h r = [y] → n = y * 256) ∧ 0 ≤ n ∧ n ≤ 65280
structure RwX (w : World) (b : Nat) (sv rv : Value) (s : Rw.S) : Prop where
  g : Rw.Good s
  z : ∀ k, PlZ b sv rv k → b ≤ k ∧ k < w.heap.size
  ex : ∃ n x, RwC w b s.h n sv rv s.rows s.left s.e x ∧ (s.e = 0 → x = Rw.nx s.h s.cur b ∧ Rw.Hi s.h s.cur n ∧ w.ownsRow (b + 1) 3 1 sv (Rw.oneV s.h s.cur).length (ints (Rw.oneV s.h s.cur)) ∧ w.ownsRow (b + 1) 55 1 rv (Rw.rowV s.h s.cur).length (pixs (Rw.rowV s.h s.cur)))
def RwNewR (h : Hd.H) (w : World) (e : Ending) (w' : World) : Prop :=
  ∃ b, e = .returned (.tuple #[.pointer (some ⟨b, 0, none⟩), .int .i64 0]) ∧ w.heap.size ≤ b ∧ RwX w' b (.slice none 0 0) (.slice none 0 0) (Rw.new h) ∧ Below w.heap.size w w'
theorem rw_new {w : World} {b : Nat} {h : Hd.H} (hm : Rw.May h) {x : Value} (hx : x = Rw.nx h [] b) (H : RwC w b h 0 (.slice none 0 0) (.slice none 0 0) 0 (Hj.size h) 0 x) : RwX w b (.slice none 0 0) (.slice none 0 0) (Rw.new h) :=
  ⟨Rw.good_new hm, (fun k hk => hk.elim (fun h => by subst h; exact ⟨Nat.le_refl _, H.lt⟩) fun h => h.elim (fun h => by cases h) fun h => by cases h), 0, x, H, fun _ => ⟨hx, ⟨fun _ => rfl, (fun y hy => by cases hy), by omega, by omega⟩, by show World.ownsRow _ _ _ _ _ (Rw.oneV h []).length (ints (Rw.oneV h [])); rw [Rw.oneV_nil]; exact World.ownsRow_nil _ _ _ _, by show World.ownsRow _ _ _ _ _ (Rw.rowV h []).length (pixs (Rw.rowV h [])); rw [Rw.rowV_nil]; exact World.ownsRow_nil _ _ _ _⟩⟩
set_option maxHeartbeats 1000000 in
theorem rwNew_no (h : Hd.H) (hf : Hj.Fit h) (hm : ¬ Rw.May h) (w : World) :
    Calls Tryz.prog 136 #[agH h] w fun e w' => e = .returned (.tuple #[.pointer none, .int .i64 1]) ∧ Below w.heap.size w w' := by
  have HM := Lib.hid (rwMay_any h hf)
  simp only [decide_eq_false hm] at HM
  unfold agH at HM ⊢
  clear hm
  go_enter Tryz.func136, Tryz.ntmps136
  go_wp2_with (go_at_call 154; refine (HM.out _).mono ?_; rintro e w9 ⟨rfl, hb9⟩; have hBz := Lib.hid (((Below.refl _ w).alloc (Nat.le_refl _) _).trans (hb9.mono (by simp))))
  go_ret2
  exact ⟨rfl, hBz.out⟩
set_option maxRecDepth 100000 in
set_option maxHeartbeats 4000000 in
theorem rwNew_yes (h : Hd.H) (hf : Hj.Fit h) (hm : Rw.May h) (w : World) :
    Calls Tryz.prog 136 #[agH h] w (RwNewR h w) := by
  have HM := Lib.hid (rwMay_any h hf)
  simp only [decide_eq_true hm] at HM
  have HS := Lib.hid (hsize_any h hm.1)
  have HM' := Lib.hid hm
  obtain ⟨sz, hsz⟩ : ∃ sz, Hj.size h = sz := ⟨_, rfl⟩
  rw [hsz] at HS
  have HZ := Lib.hid hsz
  unfold agH at HM HS ⊢
  clear hm hf hsz
  go_enter Tryz.func136, Tryz.ntmps136
  go_upto_region 3 with (go_at_call 154; refine (HM.out _).mono ?_; rintro e w9 ⟨rfl, hb9⟩; have hBz := Lib.hid (((Below.refl _ w).alloc (Nat.le_refl _) _).trans (hb9.mono (by simp))); have HN := Lib.hid ((Hb.new w 62 h).later hb9); clear hb9)
  obtain ⟨n0, n1, n2, n3⟩ := HN.out.cells
  have hBr : Below w9.heap.size w9 w9 := .refl _ _
  go_cut [4] from 8 to 12 (fun s4 wx => ∃ B x0, s4 = .pointer (some ⟨B, 0, none⟩) ∧ w9.heap.size ≤ B ∧ RwC wx B h 0 (.slice none 0 0) (.slice none 0 0) 0 sz 0 x0 ∧ Below w9.heap.size w9 wx)
  case first =>
    go_region_held3 (fun w' => w'.cell? ⟨w.heap.size, 0, none⟩ = some (.int .i64 h.kd) ∧ w'.cell? ⟨w.heap.size, 1, none⟩ = some (.int .i64 h.w) ∧ w'.cell? ⟨w.heap.size, 2, none⟩ = some (.int .i64 h.h) ∧ w'.cell? ⟨w.heap.size, 3, none⟩ = some (.int .i64 h.m))
      (first | exact ⟨n0, n1, n2, n3⟩ | exact ⟨cell_later hBr n0, cell_later hBr n1, cell_later hBr n2, cell_later hBr n3⟩ | go_keep)
      (first | (go_at_call 100; refine (HS.out _).mono ?_; rintro e w8 ⟨rfl, hb8⟩; replace hBr := bel_step (w := w9) (by first | exact hBr | exact hBr.drew) hb8))
    all_goals
      go_wp2_with fail
      go_meet
      case rel => exact ⟨_, _, rfl, hBr.size, raw_cells _ h _ _ _ _ _ _ _, hBr.alloc hBr.size _⟩
  case rest =>
    obtain ⟨B, x0, rfl, hB9, hC, hBx⟩ := hcut
    obtain ⟨m0, m1, m2, m3⟩ := (HN.out.later hBx).cells
    have HC := Lib.hid hC
    have k10 := hC.c10
    have f10 := hC.fr 10
    have HB0 : Hid (w.heap.size ≤ B) := Lib.hid (Nat.le_trans hBz.out.size hB9)
    have HBC := Lib.hid (hBz.out.trans (hBx.mono hBz.out.size))
    have hmm := HM'.out.m
    have hne : ¬ w.heap.size = B := by have := HN.out.lt; omega
    clear hC hBx n0 n1 n2 n3 hBr hB9
    by_cases h4 : h.kd = 4
    · have hk : (h.kd == 4) = true := by simpa using h4
      have HX : Hid (rwE B = Rw.nx h [] B) := Lib.hid (by unfold Rw.nx; rw [if_pos h4])
      clear h4 hmm
      go_wp2
      go_returns
      exact ⟨B, rfl, HB0.out, rw_new HM'.out HX.out (by rw [HZ.out]; exact HC.out.put10 _), HBC.out.setCell HB0.out _⟩
    · have hk : (h.kd == 4) = false := by simpa using h4
      by_cases h255 : 255 < h.m
      · have HX : Hid (rwH B = Rw.nx h [] B) := Lib.hid (by unfold Rw.nx; rw [if_neg h4, if_pos ⟨h255, rfl⟩])
        clear h4 hmm
        go_wp2
        go_returns
        exact ⟨B, rfl, HB0.out, rw_new HM'.out HX.out (by rw [HZ.out]; exact HC.out.put10 _), HBC.out.setCell HB0.out _⟩
      · have HX : Hid (rwL B = Rw.nx h [] B) := Lib.hid (by unfold Rw.nx; rw [if_neg h4, if_neg (fun h => h255 h.1)])
        clear h4 hmm
        go_wp2
        go_returns
        exact ⟨B, rfl, HB0.out, rw_new HM'.out HX.out (by rw [HZ.out]; exact HC.out.put10 _), HBC.out.setCell HB0.out _⟩
end Go.Proofs.YtkjkepnailamnaaGreat
namespace Go.Proofs.YtkjkepnailamnaaGreat
open Go.RowKit
set_option linter.unusedVariables false
def Rw.stT (f t : Int) : Int := if f ≠ 0 then 2 else if t = 0 then 1 else 0
theorem Rw.last_eq (s : Rw.S) : Rw.last s = Rw.stT s.e s.left := rfl
set_option maxHeartbeats 1000000 in
theorem rwPut_done (c : Int) (w : World) (b : Nat) (h : Hd.H) (n : Int) (sv rv : Value) (rows f : Int) (x : Value) (H : RwC w b h n sv rv rows 0 f x) :
    Calls Tryz.prog 137 #[.pointer (some ⟨b, 0, none⟩), .int .u8 c] w fun e w' => e = .returned (.tuple #[.slice none 0 0, .int .i64 (Rw.stT f 0)]) ∧ w = w' := by
  have hc8 := H.c8
  have HS : Hid (Calls Tryz.prog 178 #[.pointer (some ⟨b, 0, none⟩)] w fun e w' => e = .returned (.int .i64 (Rw.stT f 0)) ∧ w = w') := Lib.hid (rwStatus_any w b h n sv rv rows 0 f x H)
  generalize Rw.stT f 0 = st at HS ⊢
  go_enter Tryz.func137, Tryz.ntmps137
  go_wp2_with (go_at_call 178; refine HS.out.mono ?_; rintro e w3 ⟨rfl, rfl⟩)
  go_returns
  exact ⟨rfl, rfl⟩
set_option maxHeartbeats 1000000 in
theorem rwPut_go (c : Int) (w : World) (b : Nat) (h : Hd.H) (n : Int) (sv rv : Value) (rows t : Int) (t0 : 1 ≤ t) (t1 : t ≤ 1610612736) (fn : Nat) (hn : ∀ args w, (callFunc fn args).run Tryz.prog w = .ok (.enter fn args) w) (H : RwC w b h n sv rv rows t 0 (.func (.func fn) #[.pointer (some ⟨b, 0, none⟩)] #[])) (m : Nat) (rows' t' f' : Int) (R : World → Option Addr → Value → Value → Prop)
    (hcall : Calls Tryz.prog fn #[.pointer (some ⟨b, 0, none⟩), .int .u8 c] (w.setCell ⟨b, 8, none⟩ (.int .i64 (t - 1))) fun e w' => ∃ a c' n' sv' rv' x', e = .returned (.slice a m c') ∧ RwC w' b h n' sv' rv' rows' t' f' x' ∧ R w' a sv' rv') :
    Calls Tryz.prog 137 #[.pointer (some ⟨b, 0, none⟩), .int .u8 c] w fun e w' => ∃ a c' sv' rv', e = .returned (.tuple #[.slice a m c', .int .i64 (Rw.stT f' t')]) ∧ R w' a sv' rv' := by
  have hc8 := H.c8
  have f8 := H.fr 8
  have d10 := (H.put8 (t - 1)).c10
  have HC := Lib.hid hcall
  have ht : (t == 0) = false := by simp; omega
  have e1 : wrap64 (t - 1) = t - 1 := by rw [IntWalk.wrap64_in] <;> omega
  have HS : Hid (∀ W n2 sv2 rv2 x2, RwC W b h n2 sv2 rv2 rows' t' f' x2 → Calls Tryz.prog 178 #[.pointer (some ⟨b, 0, none⟩)] W fun e w' => e = .returned (.int .i64 (Rw.stT f' t')) ∧ W = w') := Lib.hid fun W n2 sv2 rv2 x2 h2 => rwStatus_any W b h n2 sv2 rv2 rows' t' f' x2 h2
  generalize Rw.stT f' t' = st at HS ⊢
  clear hcall t0 t1
  go_enter Tryz.func137, Tryz.ntmps137
  go_wp2_with (first | (go_at_fn fn; refine HC.out.mono ?_; rintro e w2 ⟨a2, c2, n2, sv2, rv2, x2, rfl, h2, hR⟩; have HH2 := Lib.hid h2; have HR2 := Lib.hid hR; clear h2 hR) | (go_at_call 178; refine (HS.out _ _ _ _ _ HH2.out).mono ?_; rintro e w3 ⟨rfl, rfl⟩))
  go_returns
  exact ⟨a2, c2, sv2, rv2, rfl, HR2.out⟩
def RwPutR (w : World) (b : Nat) (sv rv : Value) (q : Rw.S × List Int) (e : Ending) (w' : World) : Prop :=
  ∃ a c sv' rv', e = .returned (.tuple #[.slice a q.2.length c, .int .i64 (Rw.last q.1)]) ∧ RwX w' b sv' rv' q.1 ∧ SlK .u64 w' a q.2.length q.2 ∧ Sep (PlZ b sv rv) w w' ∧ PlNew w sv sv' ∧ PlNew w rv rv'
theorem Rw.left_le {s : Rw.S} (G : Rw.Good s) : s.left ≤ 1610612736 := by
  have hm := G.may.m
  have hs := (Rw.stride_at G.may).2.1
  rcases G.e with e | e
  · have h1 := G.left1 e
    have h2 : 0 ≤ s.rows * (Rw.stride s.h : Int) := Int.mul_nonneg G.rows0 (by omega)
    have h3 : s.h.h * (Rw.stride s.h : Int) ≤ 65536 * 24576 := Int.mul_le_mul (by omega) (by omega) (by omega) (by omega)
    omega
  · have := G.left5 e; omega
theorem RwT.z {W w : World} {b : Nat} {h : Hd.H} {sv0 rv0 : Value} {n : Int} {sv rv : Value} {one row : List Int} {rows t : Int} {x : Value} (T : RwT W b h sv0 rv0 n sv rv one row rows t x w) : ∀ k, PlZ b sv rv k → b ≤ k ∧ k < w.heap.size := by
  intro k hk
  have hb := T.c.lt
  rcases hk with rfl | hk | hk
  · exact ⟨Nat.le_refl _, hb⟩
  · have := T.s.lt k hk; omega
  · have := T.r.lt k hk; omega
theorem rw_put_live {s : Rw.S} {q : Rw.S × List Int} {w : World} {b : Nat} {sv rv : Value} (X : RwX w b sv rv s) (hl : s.left ≠ 0) (e0 : s.e = 0) (c : Int) (hG : Rw.Good q.1) (hqe : q.1.e = 0) (hqh : q.1.h = s.h) (hql : q.1.left = s.left - 1) (fn : Nat) (hn : ∀ args w, (callFunc fn args).run Tryz.prog w = .ok (.enter fn args) w) (hfn : Rw.nx s.h s.cur b = .func (.func fn) #[.pointer (some ⟨b, 0, none⟩)] #[])
    (hcall : ∀ n, Rw.Hi s.h s.cur n → ∀ W1, RwT W1 b s.h sv rv n sv rv (Rw.oneV s.h s.cur) (Rw.rowV s.h s.cur) s.rows (s.left - 1) (Rw.nx s.h s.cur b) W1 →
      Calls Tryz.prog fn #[.pointer (some ⟨b, 0, none⟩), .int .u8 c] W1 fun e w' => ∃ n' sv', RwTake W1 b s.h sv rv n' sv' (Rw.oneV s.h q.1.cur) (Rw.nx s.h q.1.cur b) (s.left - 1) (Rw.rowV s.h q.1.cur) q.1.rows q.2 e w' ∧ Rw.Hi s.h q.1.cur n') :
    Calls Tryz.prog 137 #[.pointer (some ⟨b, 0, none⟩), .int .u8 c] w (RwPutR w b sv rv q) := by
  obtain ⟨n, x, hC, hx⟩ := X.ex
  obtain ⟨rfl, hi, hs, hr⟩ := hx e0
  have hle := Rw.left_le X.g
  have hl0 := X.g.left0
  rw [e0] at hC
  have hC' := hC
  rw [hfn] at hC'
  refine (rwPut_go c w b s.h n sv rv s.rows s.left (by omega) hle fn hn hC' q.2.length q.1.rows (s.left - 1) 0 (fun w' a sv' rv' => ∃ n', RwT (w.setCell ⟨b, 8, none⟩ (.int .i64 (s.left - 1))) b s.h sv rv n' sv' rv' (Rw.oneV s.h q.1.cur) (Rw.rowV s.h q.1.cur) q.1.rows (s.left - 1) (Rw.nx s.h q.1.cur b) w' ∧ SlK .u64 w' a q.2.length q.2 ∧ Rw.Hi s.h q.1.cur n') ?_).mono ?_
  · refine (hcall n hi _ (.start (hC.put8 _) (set_ownsRow hs (Nat.lt_succ_self b) _) (set_ownsRow hr (Nat.lt_succ_self b) _))).mono ?_
    rintro e w' ⟨n', sv', ⟨a, c', rv', he, hT, hS⟩, hH⟩
    exact ⟨a, c', n', sv', rv', _, he, hT.c, n', hT, hS, hH⟩
  · rintro e w' ⟨a, c', sv', rv', he, n', hT, hS, hH⟩
    have S1 : Sep (PlZ b sv rv) w (w.setCell ⟨b, 8, none⟩ (.int .i64 (s.left - 1))) := .setCell _ (.inl rfl) _
    have hT' := hT.base S1
    refine ⟨a, c', sv', rv', by rw [he, Rw.last_eq, hqe, hql], ⟨hG, hT'.z, n', _, by rw [hqh, hql, hqe]; exact hT'.c, fun _ => ?_⟩, hS, hT'.f, hT'.ns, hT'.nr⟩
    rw [hqh]
    exact ⟨rfl, hH, hT'.s, hT'.r⟩
theorem rw_take_fin {h : Hd.H} (hm : Rw.May h) {r : List Int} (hr : r.length ≤ Rw.stride h) {W w : World} {b : Nat} {sv0 rv0 : Value} {n : Int} {sv rv : Value} {rows t : Int} {x : Value} (rows0 : 0 ≤ rows) (rows1 : rows ≤ 65536) (T : RwT W b h sv0 rv0 n sv rv (Rw.oneV h r) (Rw.rowV h r) rows t x w) :
    Calls Tryz.prog 196 #[.pointer (some ⟨b, 0, none⟩)] w (RwTake W b h sv0 rv0 n sv (Rw.oneV h (if r.length = Rw.stride h then [] else r)) x t (Rw.rowV h (if r.length = Rw.stride h then [] else r)) (if r.length = Rw.stride h then rows + 1 else rows) (if r.length = Rw.stride h then Rw.rowV h r else [])) := by
  have hmm := hm.m
  have hl := Rw.row_len hm r
  by_cases h1 : r.length = Rw.stride h
  · rw [if_pos h1, if_pos h1, if_pos h1]
    have h2 := hl.2.1 h1
    have h3 := (Rw.row_end hm h1).1
    rw [Rw.oneV_nil, Rw.rowV_nil]
    have h4 := rwTake_yes T (by omega) (by omega) (by omega) rows0 rows1
    rw [h3] at h4
    exact h4
  · rw [if_neg h1, if_neg h1, if_neg h1]
    exact rwTake_no T (hl.1 (by omega))
end Go.Proofs.YtkjkepnailamnaaGreat
namespace Go.Proofs.YtkjkepnailamnaaGreat
open Go.RowKit
set_option linter.unusedVariables false
namespace Rw
theorem put_alive {s : S} (hl : s.left ≠ 0) {c : Int} (hb : ¬ bad s.h s.cur c) : put s c = (⟨s.h, if (s.cur ++ [c]).length = stride s.h then [] else s.cur ++ [c], if (s.cur ++ [c]).length = stride s.h then s.rows + 1 else s.rows, s.left - 1, 0⟩, if (s.cur ++ [c]).length = stride s.h then rowV s.h (s.cur ++ [c]) else []) := by
  unfold put
  rw [if_neg hl, if_neg hb, List.length_append, List.length_singleton]
  split <;> rfl
theorem put_bad {s : S} (hl : s.left ≠ 0) {c : Int} (hb : bad s.h s.cur c) : put s c = (⟨s.h, s.cur, s.rows, 0, 5⟩, []) := by
  unfold put
  rw [if_neg hl, if_pos hb]
theorem put_over {s : S} (hl : s.left = 0) (c : Int) : put s c = (s, []) := by unfold put; rw [if_pos hl]
theorem oneV4 {h : Hd.H} (h4 : h.kd = 4) (r : List Int) : oneV h r = [] := by unfold oneV; rw [if_pos h4]
theorem hi_val {h : Hd.H} {r : List Int} (hr : ∀ x ∈ r, 0 ≤ x ∧ x ≤ 255) (hf : (rest h r).length + 1 = wide h) {n : Int} (hi : Hi h r n) (c : Int) : val (rest h r ++ [c]) = n + c := by
  rcases wait_in (h := h) hr with e | ⟨y, e, _, _, _⟩
  · have e' : rest h r = [] := e
    rw [e'] at hf ⊢
    have hw := wide_at h
    rw [hi.1 (by simp at hf; omega)]
    show val [c] = _
    rw [val_one]; omega
  · have e' : rest h r = [y] := e
    rw [e', hi.2.1 y e']
    show val [y, c] = _
    rw [val_two]
theorem nx_low {h : Hd.H} {r : List Int} (h4 : h.kd ≠ 4) (hf : (rest h r).length + 1 = wide h) (b : Nat) : nx h r b = rwL b := by
  unfold nx
  rw [if_neg h4, if_neg]
  rintro ⟨h1, h2⟩
  rw [h2] at hf
  have := wide_at h
  simp at hf; omega
theorem nx_next {h : Hd.H} {r : List Int} (h4 : h.kd ≠ 4) (hr : rest h r = []) (b : Nat) : rwN h b (rwL b) = nx h r b := by
  unfold nx rwN
  rw [if_neg h4]
  by_cases h1 : 255 < h.m
  · rw [if_pos h1, if_pos ⟨h1, hr⟩]
  · rw [if_neg h1, if_neg fun h => h1 h.1]
theorem hi_next {h : Hd.H} {r r' : List Int} {n : Int} (hi : Hi h r n) (hr : rest h r' = []) : Hi h r' n := ⟨hi.1, (fun y hy => by rw [hr] at hy; cases hy), hi.2.2⟩
end Rw
set_option maxHeartbeats 2000000 in
theorem rwPut_any {s : Rw.S} (c : Int) (c0 : 0 ≤ c) (c1 : c ≤ 255) (w : World) (b : Nat) (sv rv : Value) (X : RwX w b sv rv s) :
    Calls Tryz.prog 137 #[.pointer (some ⟨b, 0, none⟩), .int .u8 c] w (RwPutR w b sv rv (Rw.put s c)) := by
  have hG := X.g
  have hm := hG.may.m
  by_cases hl : s.left = 0
  · rw [Rw.put_over hl]
    obtain ⟨n, x, hC, _⟩ := X.ex
    rw [hl] at hC
    refine (rwPut_done c w b s.h n sv rv s.rows s.e x hC).mono ?_
    rintro e w' ⟨he, rfl⟩
    exact ⟨none, 0, sv, rv, by rw [he, Rw.last_eq, hl]; rfl, X, Rw.slk_nil, .refl _ _, .inl rfl, .inl rfl⟩
  have e0 : s.e = 0 := by
    rcases hG.e with h | h
    · exact h
    · exact absurd (hG.left5 h) hl
  have hG' := Rw.good_put hG c c0 c1
  have hle := Rw.left_le hG
  have hl0 := hG.left0
  by_cases hb : Rw.bad s.h s.cur c
  · rw [Rw.put_bad hl hb] at hG' ⊢
    obtain ⟨h4, hf, hv⟩ := hb
    obtain ⟨n, x, hC, hx⟩ := X.ex
    obtain ⟨rfl, hi, hs, hr⟩ := hx e0
    rw [Rw.nx_low h4 hf, e0] at hC
    have hval := Rw.hi_val hG.byte hf hi c
    have hv' : s.h.m < n + c := by rw [← hval]; exact hv
    refine (rwPut_go c w b s.h n sv rv s.rows s.left (by omega) hle _ enRL hC 0 s.rows 0 5 (fun w' a sv' rv' => a = none ∧ sv' = sv ∧ rv' = rv ∧ RwC w' b s.h n sv rv s.rows 0 5 (rwL b) ∧ (w.setCell ⟨b, 8, none⟩ (.int .i64 (s.left - 1))).grownBy w' (some b)) ?_).mono ?_
    · refine (rwLow_bad (hC.put8 _) c c0 c1 hi.2.2.1 hi.2.2.2 hv').mono ?_
      rintro e w' ⟨he, hC', hg⟩
      exact ⟨none, 0, n, sv, rv, rwL b, he, hC', rfl, rfl, rfl, hC', hg⟩
    · rintro e w' ⟨a, c', sv', rv', he, rfl, rfl, rfl, hC', hg⟩
      have S2 : Sep (PlZ b sv' rv') w w' := (Sep.setCell w (.inl rfl) _).trans (.grown hg (.inl rfl))
      exact ⟨none, c', sv', rv', he, ⟨hG', z_up X.z S2.size, n, rwL b, hC', (fun h => absurd h (show ¬ (5 : Int) = 0 by decide))⟩, Rw.slk_nil, S2, .inl rfl, .inl rfl⟩
  rw [Rw.put_alive hl hb] at hG' ⊢
  have hrl : (s.cur ++ [c]).length ≤ Rw.stride s.h := by rw [List.length_append, List.length_singleton]; have := hG.cur; omega
  have hcl := Rw.row_len hG.may s.cur
  have hcl1 := hcl.1 hG.cur
  have hr4 : (Rw.rowV s.h s.cur).length ≤ 4096 := by omega
  have ho := Rw.one_len (h := s.h) s.cur
  have hch := Rw.chan_at s.h
  have ho3 : (Rw.oneV s.h s.cur).length ≤ 3 := by omega
  have hrw0 := hG.rows0
  have hrw1 : s.rows ≤ 65536 := by have := hG.rows1; omega
  by_cases h4 : s.h.kd = 4
  · have hnx : ∀ r, Rw.nx s.h r b = rwE b := fun r => by unfold Rw.nx; rw [if_pos h4]
    refine rw_put_live X hl e0 c hG' rfl rfl rfl _ enRE (hnx _) ?_
    intro n hi W1 T1
    obtain ⟨v, hv, v1, v8, _, _⟩ := Rw.min_w hcl1 (by omega) (by omega)
    have hrow := Rw.row4 hG.may h4 hG.cur c hv
    have h11 := hG.may.one h4
    have hw0 : ∀ r, Rw.rest s.h r = [] := fun r => by unfold Rw.rest; rw [h11.2.1, Rw.parts_one]
    refine (rwEighth_any T1 (by omega) hcl1 c c0 c1 v hv v1 v8 (Rw.rowV s.h (if (s.cur ++ [c]).length = Rw.stride s.h then [] else s.cur ++ [c])) (if (s.cur ++ [c]).length = Rw.stride s.h then s.rows + 1 else s.rows) (if (s.cur ++ [c]).length = Rw.stride s.h then Rw.rowV s.h (s.cur ++ [c]) else []) (fun w1 rv1 T' => ?_)).mono ?_
    · have T2 : RwT W1 b s.h sv rv n sv rv1 (Rw.oneV s.h (s.cur ++ [c])) (Rw.rowV s.h (s.cur ++ [c])) s.rows (s.left - 1) (Rw.nx s.h s.cur b) w1 := by
        rw [Rw.oneV4 h4 s.cur] at T'
        rw [Rw.oneV4 h4, hrow]
        exact T'
      have h := rw_take_fin hG.may hrl hrw0 hrw1 T2
      rw [Rw.oneV4 h4] at h
      rw [Rw.oneV4 h4]
      exact h
    · intro e w' h
      rw [Rw.oneV4 h4] at h
      refine ⟨n, sv, ?_, Rw.hi_next hi (hw0 _)⟩
      rw [Rw.oneV4 h4, hnx, ← hnx s.cur]
      exact h
  by_cases hf : (Rw.rest s.h s.cur).length + 1 = Rw.wide s.h
  · have hnx := Rw.nx_low h4 hf b
    refine rw_put_live X hl e0 c hG' rfl rfl rfl _ enRL hnx ?_
    intro n hi W1 T1
    have hval := Rw.hi_val hG.byte hf hi c
    have hle' : n + c ≤ s.h.m := by rw [← hval]; exact Int.not_lt.1 fun h => hb ⟨h4, hf, h⟩
    have hceq := Rw.chan_eq hG.may
    rw [hnx] at T1
    by_cases hone : (Rw.oneV s.h s.cur).length + 1 = Rw.chan s.h
    · obtain ⟨p1, p2, p3⟩ := Rw.row_pix h4 (c := c) hf hone
      have hre : ∀ r, r = [] ∨ r = s.cur ++ [c] → Rw.rest s.h r = [] ∧ Rw.oneV s.h r = [] := by
        rintro r (rfl | rfl)
        · exact ⟨rfl, Rw.oneV_nil _⟩
        · exact ⟨p3, p2⟩
      obtain ⟨z1, z2⟩ := hre (if (s.cur ++ [c]).length = Rw.stride s.h then [] else s.cur ++ [c]) (by split <;> simp)
      have htk : ∀ w1 sv1 rv1 y, RwT W1 b s.h sv rv n sv1 rv1 [] (Rw.rowV s.h s.cur ++ [Rw.pk (Rw.oneV s.h s.cur ++ [n + c])]) s.rows (s.left - 1) y w1 → Calls Tryz.prog 196 #[.pointer (some ⟨b, 0, none⟩)] w1 (RwTake W1 b s.h sv rv n sv1 [] y (s.left - 1) (Rw.rowV s.h (if (s.cur ++ [c]).length = Rw.stride s.h then [] else s.cur ++ [c])) (if (s.cur ++ [c]).length = Rw.stride s.h then s.rows + 1 else s.rows) (if (s.cur ++ [c]).length = Rw.stride s.h then Rw.rowV s.h (s.cur ++ [c]) else [])) := fun w1 sv1 rv1 y T' => by
        rw [← hval, ← p1] at T'
        have h := rw_take_fin hG.may hrl hrw0 hrw1 (r := s.cur ++ [c]) (by rw [p2]; exact T')
        rw [z2] at h
        exact h
      have hgo : Calls Tryz.prog 177 #[.pointer (some ⟨b, 0, none⟩), .int .u8 c] W1 fun e w' => ∃ sv', RwTake W1 b s.h sv rv n sv' [] (rwN s.h b (rwL b)) (s.left - 1) (Rw.rowV s.h (if (s.cur ++ [c]).length = Rw.stride s.h then [] else s.cur ++ [c])) (if (s.cur ++ [c]).length = Rw.stride s.h then s.rows + 1 else s.rows) (if (s.cur ++ [c]).length = Rw.stride s.h then Rw.rowV s.h (s.cur ++ [c]) else []) e w' := by
        by_cases h255 : 255 < s.h.m
        · exact rwLow_pix2 hG.may.1 T1 c c0 c1 hi.2.2.1 hi.2.2.2 hle' h255 ho3 hr4 (by omega) _ _ _ htk
        · exact rwLow_pix1 hG.may.1 T1 c c0 c1 hi.2.2.1 hi.2.2.2 hle' h255 ho3 hr4 (by omega) _ _ _ htk
      refine hgo.mono ?_
      rintro e w' ⟨sv', h⟩
      refine ⟨n, sv', ?_, Rw.hi_next hi z1⟩
      rw [z2, ← Rw.nx_next h4 z1]
      exact h
    · obtain ⟨p1, p2, p3⟩ := Rw.row_more h4 (c := c) hf hone
      have hne : ¬ (s.cur ++ [c]).length = Rw.stride s.h := fun h => by
        have := (Rw.row_end hG.may h).1
        rw [p2] at this; simp at this
      have hgo : Calls Tryz.prog 177 #[.pointer (some ⟨b, 0, none⟩), .int .u8 c] W1 fun e w' => ∃ sv', RwTake W1 b s.h sv rv n sv' (Rw.oneV s.h s.cur ++ [n + c]) (rwN s.h b (rwL b)) (s.left - 1) (Rw.rowV s.h s.cur) s.rows [] e w' := by
        by_cases h255 : 255 < s.h.m
        · exact rwLow_more2 hG.may.1 T1 c c0 c1 hi.2.2.1 hi.2.2.2 hle' h255 ho3 hr4 (by omega) hcl1
        · exact rwLow_more1 hG.may.1 T1 c c0 c1 hi.2.2.1 hi.2.2.2 hle' h255 ho3 hr4 (by omega) hcl1
      refine hgo.mono ?_
      rintro e w' ⟨sv', h⟩
      simp only [if_neg hne]
      refine ⟨n, sv', ?_, Rw.hi_next hi p3⟩
      rw [p1, p2, hval, ← Rw.nx_next h4 p3]
      exact h
  · obtain ⟨p1, p2, p3⟩ := Rw.row_wait h4 (c := c) hf
    have hw := Rw.wide_at s.h
    have hr0 : Rw.rest s.h s.cur = [] ∧ 255 < s.h.m := by
      rcases Rw.wait_in (h := s.h) hG.byte with e | ⟨y, e, _, _, h2⟩
      · have e' : Rw.rest s.h s.cur = [] := e
        rw [e'] at hf
        exact ⟨e', by simp at hf; omega⟩
      · have e' : Rw.rest s.h s.cur = [y] := e
        rw [e', h2] at hf
        simp at hf
    have hne : ¬ (s.cur ++ [c]).length = Rw.stride s.h := fun h => by
      have := (Rw.row_end hG.may h).2 h4
      rw [p3] at this; simp at this
    have hnx : Rw.nx s.h s.cur b = rwH b := by unfold Rw.nx; rw [if_neg h4, if_pos ⟨hr0.2, hr0.1⟩]
    refine rw_put_live X hl e0 c hG' rfl rfl rfl _ enRH hnx ?_
    intro n hi W1 T1
    refine (rwHigh_any W1 b s.h n sv rv s.rows (s.left - 1) 0 _ T1.c c c0 c1).mono ?_
    rintro e w' ⟨he, hC, hg⟩
    simp only [if_neg hne]
    have hnx' : Rw.nx s.h (s.cur ++ [c]) b = rwL b := by unfold Rw.nx; rw [if_neg h4, if_neg]; rintro ⟨_, h⟩; rw [p3] at h; simp at h
    refine ⟨c * 256, sv, ⟨none, 0, rv, he, ?_, Rw.slk_nil⟩, ⟨fun h => by omega, fun y hy => ?_, by omega, by omega⟩⟩
    · rw [p1, p2, hnx']
      exact ⟨hC, T1.s.kept hg (.inr fun e => T1.nes e.symm), T1.r.kept hg (.inr fun e => T1.ner e.symm), .grown hg (.inl rfl), .inl rfl, .inl rfl⟩
    · rw [p3, hr0.1] at hy
      simp at hy
      rw [hy]
theorem rwError_x {w : World} {b : Nat} {sv rv : Value} {s : Rw.S} (X : RwX w b sv rv s) :
    Calls Tryz.prog 138 #[.pointer (some ⟨b, 0, none⟩)] w fun e w' => e = .returned (.int .i64 s.e) ∧ w = w' := by
  obtain ⟨n, x, hC, _⟩ := X.ex
  exact rwError_any w b s.h n sv rv s.rows s.left s.e x hC
end Go.Proofs.YtkjkepnailamnaaGreat
namespace Go.Proofs.YtkjkepnailamnaaGreat
open Go.RowKit
set_option linter.unusedVariables false
namespace Rw
def readF : S → List Int → List Int → List Int × Int
  | s, acc, [] => ([], 6)
  | s, acc, c :: cs =>
    if last (put s c).1 = 1 then (acc ++ (put s c).2, 0)
    else if last (put s c).1 = 2 then ([], (put s c).1.e)
    else readF (put s c).1 (acc ++ (put s c).2) cs
def readV (h : Hd.H) (x : List Int) : List Int × Int := if May h then readF (new h) [] x else ([], 1)
theorem readF_over {s : S} {q : S × List Int} {acc : List Int} {c : Int} {cs : List Int} (hq : put s c = q) (h : last q.1 = 1) : readF s acc (c :: cs) = (acc ++ q.2, 0) := by rw [readF, hq, if_pos h]
theorem readF_wrong {s : S} {q : S × List Int} {acc : List Int} {c : Int} {cs : List Int} (hq : put s c = q) (h : last q.1 = 2) : readF s acc (c :: cs) = ([], q.1.e) := by rw [readF, hq, if_neg (by omega), if_pos h]
theorem readF_more {s : S} {q : S × List Int} {acc : List Int} {c : Int} {cs : List Int} (hq : put s c = q) (h : last q.1 = 0) : readF s acc (c :: cs) = readF q.1 (acc ++ q.2) cs := by rw [readF, hq, if_neg (by omega), if_neg (by omega)]
theorem readF_nil (s : S) (acc : List Int) : readF s acc [] = ([], 6) := by rw [readF]
theorem last_012 (s : S) : last s = 0 ∨ last s = 1 ∨ last s = 2 := by unfold last; split <;> (try split) <;> simp
theorem size_pos {h : Hd.H} (H : May h) : 1 ≤ Hj.size h := by
  have hm := H.m
  have hs := stride_at H
  rw [size_eq H]
  have h1 : (1 : Int) * 1 ≤ h.h * (stride h : Int) := Int.mul_le_mul (by omega) (by omega) (by omega) (by omega)
  omega
theorem last_new {h : Hd.H} (H : May h) : last (new h) = 0 := by
  have := size_pos H
  unfold last
  show (if (0 : Int) ≠ 0 then (2 : Int) else if Hj.size h = 0 then 1 else 0) = 0
  rw [if_neg (by omega), if_neg (by omega)]
theorem put_len {s : S} (G : Good s) (c : Int) : (put s c).2.length ≤ 4096 := by
  have hm := G.may.m
  unfold put
  split
  · simp
  split
  · simp
  split
  · rename_i h
    have := (row_len G.may (s.cur ++ [c])).2.1 (by rw [List.length_append, List.length_singleton]; exact h)
    show (rowV s.h (s.cur ++ [c])).length ≤ _
    omega
  · simp
end Rw
theorem RwX.kept {w w' : World} {b : Nat} {sv rv v : Value} {s : Rw.S} (X : RwX w b sv rv s) (ha : Ap v b sv rv) (hg : w.grownBy w' v.ownBlock) : RwX w' b sv rv s := by
  obtain ⟨n, x, hC, hx⟩ := X.ex
  refine ⟨X.g, z_up X.z hg.size, n, x, hC.kept hg ha.ne, fun h0 => ?_⟩
  obtain ⟨e1, e2, h1, h2⟩ := hx h0
  exact ⟨e1, e2, h1.kept hg ha.s, h2.kept hg ha.r⟩
theorem RwX.later {w w' : World} {b : Nat} {sv rv : Value} {s : Rw.S} (X : RwX w b sv rv s) (hb : Below w.heap.size w w') : RwX w' b sv rv s := by
  obtain ⟨n, x, hC, hx⟩ := X.ex
  refine ⟨X.g, z_up X.z hb.size, n, x, hC.later hb, fun h0 => ?_⟩
  obtain ⟨e1, e2, h1, h2⟩ := hx h0
  exact ⟨e1, e2, below_row h1 hb, below_row h2 hb⟩
theorem RwX.lt {w : World} {b : Nat} {sv rv : Value} {s : Rw.S} (X : RwX w b sv rv s) : b < w.heap.size := by obtain ⟨n, x, hC, _⟩ := X.ex; exact hC.lt
theorem Rw.ap_app {w : World} {b : Nat} {sv rv v v' : Value} {s : Rw.S} (X : RwX w b sv rv s) (ha : Ap v b sv rv) (hat : v'.ownBlock = v.ownBlock ∨ v'.ownBlock = some w.heap.size) : Ap v' b sv rv := by
  intro k hk hz
  rcases hat with h | h
  · exact ha k (by rw [← h]; exact hk) hz
  · rw [h] at hk; cases hk
    have := (X.z _ hz).2; omega
def RwdR (t : List Int × Int) (w : World) (e : Ending) (w' : World) : Prop :=
  ∃ a c, e = .returned (.tuple #[.slice a t.1.length c, .int .i64 t.2]) ∧ SlK .u64 w' a t.1.length t.1 ∧ Below w.heap.size w w'
theorem rwd_nil {t : List Int × Int} {e : Int} (ht : t = ([], e)) {w w' : World} (hB : Below w.heap.size w w') : RwdR t w (.returned (.tuple #[.slice none 0 0, .int .i64 e])) w' :=
  ⟨none, 0, by rw [ht]; rfl, by rw [ht]; exact slk_nil, hB⟩
theorem rwd_row {t : List Int × Int} {l : List Int} {e : Int} (ht : t = (l, e)) {w w' : World} {base k : Nat} {v : Value} (hr : w'.ownsRow base 55 1 v k (pixs l)) (hk : l.length = k) (hB : Below w.heap.size w w') : RwdR t w (.returned (.tuple #[v, .int .i64 e])) w' := by
  obtain ⟨a, c, rfl, hs⟩ := slk_row hr hk
  subst hk
  exact ⟨a, c, by rw [ht], by rw [ht]; exact hs, hB⟩
set_option maxRecDepth 100000 in
set_option maxHeartbeats 4000000 in
theorem rwRead_any (ab : Option Addr) (nb cb : Nat) (bs : List Int) (hnb : nb ≤ 100000) (h : Hd.H) (hf : Hj.Fit h) (w : World) (hs : Bt.Bs w ab nb cb bs) :
    Calls Tryz.prog 99 #[.slice ab nb cb, agH h] w (RwdR (Rw.readV h bs) w) := by
  by_cases hm : Rw.May h
  · have HN := Lib.hid (rwNew_yes h hf hm)
    obtain ⟨t0, ht0⟩ : ∃ t, Rw.readV h bs = t := ⟨_, rfl⟩
    have HV0 : Hid (t0 = Rw.readF (Rw.new h) [] bs) := by show _ = _; rw [← ht0]; exact if_pos hm
    rw [ht0]
    obtain ⟨p0, pi, pz0, pz1, pz2⟩ : ∃ i, Tryz.prog.info? 55 = some i ∧ i.zero = some (.int .u64 0) ∧ i.size = 1 ∧ i.bytes = 8 := (by have h := Tryz.info_px8; cases hh : Tryz.prog.info? 55 with | none => rw [hh] at h; cases h | some i => rw [hh] at h; simp at h; exact ⟨i, rfl, h.1, h.2.1, h.2.2⟩)
    have HSB := Lib.hid hs.1
    have HBY := Lib.hid hs.2.2.2
    have HLB : Hid (bs.length = nb) := Lib.hid hs.1.1
    have HL0 := Lib.hid (Rw.last_new hm)
    clear ht0 hf hm hs
    unfold agH at HN ⊢
    go_enter Tryz.func99, Tryz.ntmps99
    go_wp2_with fail
    refine (HN.out _).mono ?_
    rintro e w1 ⟨b, rfl, hwb, hX, hb1⟩
    have HX1 := Lib.hid hX
    have HB1 := Lib.hid (((Below.refl _ w).alloc (Nat.le_refl _) _).trans (hb1.mono (by simp)))
    have HWB : Hid (w.heap.size ≤ b) := Lib.hid (by simp at hwb; omega)
    clear hX hb1 hwb
    go_wp2_with fail
    go_loopw [8, 23] (fun u8 u23 wr => ∃ (i : Nat) (sv rv : Value) (st : Rw.S) (acc : List Int) (v : Value), i ≤ nb ∧ u23 = .int .i64 i ∧ v = u8 ∧ RwX wr b sv rv st ∧ Rw.last st = 0 ∧ wr.ownsRow w.heap.size 55 1 v acc.length (pixs acc) ∧ Ap v b sv rv ∧ acc.length ≤ 4096 * i ∧ Below w.heap.size w wr ∧ t0 = Rw.readF st acc (bs.drop i)) (fun _ u23 _ => nb - (intOf u23).toNat)
    case atStart => exact ⟨0, _, _, Rw.new h, [], _, Nat.zero_le _, rfl, rfl, HX1.out, HL0.out, World.ownsRow_nil _ _ _ _, ap_nil _ _ _, Nat.le_refl _, HB1.out, HV0.out⟩
    case round =>
      obtain ⟨i, sv, rv, st, acc, v, hi1, rfl, rfl, hX, h0, hrow, hap, hgr, hB, hV⟩ := hrel
      have HX := Lib.hid hX
      have HROW := Lib.hid hrow
      have HAP := Lib.hid hap
      have HB := Lib.hid hB
      have H0 := Lib.hid h0
      have HG := Lib.hid hX.g
      obtain ⟨n, hn⟩ : ∃ n, acc.length = n := ⟨_, rfl⟩
      have HNL := Lib.hid hn
      rw [hn] at hgr
      have HROW' : Hid (wr.ownsRow w.heap.size 55 1 v n (pixs acc)) := by show World.ownsRow _ _ _ _ _ _ _; have h := hrow; rw [hn] at h; exact h
      have hn9 : n ≤ 409600000 := by omega
      have HGR := Lib.hid hgr
      have hsl := HSB.out.below hB
      clear hX hrow hap hB h0 hn
      have HPZ : Hid (∀ (q : Rw.S × List Int) (w2 : World) sv' rv', RwX w2 b sv' rv' q.1 → Sep (PlZ b sv rv) wr w2 → PlNew wr sv sv' → PlNew wr rv rv' → w2.ownsRow w.heap.size 55 1 v n (pixs acc) ∧ Ap v b sv' rv' ∧ Below w.heap.size w w2) := Lib.hid fun q w2 sv' rv' hX2 hS hN1 hN2 =>
        ⟨row_sep HROW'.out hS HAP.out, ap_put HROW'.out HAP.out hN1 hN2, HB.out.trans (hS.below HB.out.size (fun k hk hz => by have := (HX.out.z k hz).1; have := HWB.out; omega))⟩
      by_cases hlt : i < nb
      · have hdr : bs.drop i = bs.getD i 0 :: bs.drop (i + 1) := by rw [List.drop_eq_getElem_cons (by rw [HLB.out]; exact hlt), List.getD_eq_getElem?_getD, List.getElem?_eq_getElem (by rw [HLB.out]; exact hlt)]; rfl
        rw [hdr] at hV
        obtain ⟨c, hc⟩ : ∃ c, bs.getD i 0 = c := ⟨_, rfl⟩
        obtain ⟨c0, c1⟩ := HBY.out c (by rw [← hc, List.getD_eq_getElem?_getD, List.getElem?_eq_getElem (by rw [HLB.out]; exact hlt)]; exact List.getElem_mem _)
        obtain ⟨bg, bo, hba, hbc⟩ := Rw.slk_pos hsl (by omega)
        have hcell := hbc i hlt
        rw [hc] at hV hcell
        have HP := rwPut_any c c0 c1 wr b sv rv HX.out
        have hg' := Rw.put_len HG.out c
        have hG' := Rw.last_012 (Rw.put st c).1
        obtain ⟨q, hq⟩ : ∃ q, Rw.put st c = q := ⟨_, rfl⟩
        rw [hq] at HP hg' hG'
        obtain ⟨m, hm⟩ : ∃ m, q.2.length = m := ⟨_, rfl⟩
        have hml : m ≤ 4096 := by omega
        have HML := Lib.hid hm
        subst hba
        clear hdr hbc hsl c0 c1 hc
        by_cases h1 : Rw.last q.1 = 1
        · have HV2 : Hid (t0 = (acc ++ q.2, 0)) := by show _ = _; rw [hV, Rw.readF_over hq h1]
          unfold RwPutR at HP
          rw [h1, hm] at HP
          have HPC := Lib.hid HP
          clear HP hg' hG' hq hm hV h1 hgr
          go_wp2_with (first | (at_builtin; refine wpList_app rfl _ _ 30 rfl w.heap.size 55 p0 .u64 8 Tryz.underlying30 pi pz0 pz1 pz2 v n (pixs acc) rfl HO2.out a m c' q.2 rfl HS2.out (by unfold maxLen; omega) (by omega) HB2.out.size ?_; intro v3 w3 hown hgrow hat; have HO3 := Lib.hid hown; have HB3 := Lib.hid (HB2.out.grown hgrow HB2.out.size (fun j ej => (HO2.out.lt j ej).1)); clear hown hgrow hat) | (go_at_call 137; refine HPC.out.mono ?_; rintro e w2 ⟨a, c', sv', rv', rfl, hX2, hS2, hF2, hN1, hN2⟩; obtain ⟨z1, z2, z3⟩ := HPZ.out q w2 sv' rv' hX2 hF2 hN1 hN2; have HO2 := Lib.hid z1; have HB2 := Lib.hid z3; have HS2 := Lib.hid hS2; clear hX2 hS2 hF2 hN1 hN2 z1 z2 z3))
          go_returns
          exact rwd_row HV2.out (by have h := HO3.out; unfold pixs; rw [List.map_append]; exact h) (by rw [List.length_append, HNL.out, HML.out]) HB3.out
        by_cases h2 : Rw.last q.1 = 2
        · have HV2 : Hid (t0 = ([], q.1.e)) := by show _ = _; rw [hV, Rw.readF_wrong hq h2]
          unfold RwPutR at HP
          rw [h2, hm] at HP
          have HPC := Lib.hid HP
          clear HP hg' hG' hq hm hV h1 h2 hgr
          go_wp2_with (first | (at_builtin; refine wpList_app rfl _ _ 30 rfl w.heap.size 55 p0 .u64 8 Tryz.underlying30 pi pz0 pz1 pz2 v n (pixs acc) rfl HO2.out a m c' q.2 rfl HS2.out (by unfold maxLen; omega) (by omega) HB2.out.size ?_; intro v3 w3 hown hgrow hat; have HB3 := Lib.hid (HB2.out.grown hgrow HB2.out.size (fun j ej => (HO2.out.lt j ej).1)); have HX3 := Lib.hid (HX2.out.kept HA2.out hgrow); clear hown hgrow hat) | (go_at_call 137; refine HPC.out.mono ?_; rintro e w2 ⟨a, c', sv', rv', rfl, hX2, hS2, hF2, hN1, hN2⟩; obtain ⟨z1, z2, z3⟩ := HPZ.out q w2 sv' rv' hX2 hF2 hN1 hN2; have HO2 := Lib.hid z1; have HA2 := Lib.hid z2; have HB2 := Lib.hid z3; have HS2 := Lib.hid hS2; have HX2 := Lib.hid hX2; clear hX2 hS2 hF2 hN1 hN2 z1 z2 z3) | (go_at_call 138; refine (rwError_x HX3.out).mono ?_; rintro e w9 ⟨rfl, rfl⟩))
          go_returns
          exact rwd_nil HV2.out HB3.out
        · have h3 : Rw.last q.1 = 0 := by omega
          have HV2 : Hid (t0 = Rw.readF q.1 (acc ++ q.2) (bs.drop (i + 1))) := by show _ = _; rw [hV, Rw.readF_more hq h3]
          unfold RwPutR at HP
          rw [h3, hm] at HP
          have HPC := Lib.hid HP
          have H3 := Lib.hid h3
          clear HP hg' hG' hq hm hV h1 h2 h3 hgr
          go_wp2_with (first | (at_builtin; refine wpList_app rfl _ _ 30 rfl w.heap.size 55 p0 .u64 8 Tryz.underlying30 pi pz0 pz1 pz2 v n (pixs acc) rfl HO2.out a m c' q.2 rfl HS2.out (by unfold maxLen; omega) (by omega) HB2.out.size ?_; intro v3 w3 hown hgrow hat; have HO3 := Lib.hid hown; have HB3 := Lib.hid (HB2.out.grown hgrow HB2.out.size (fun j ej => (HO2.out.lt j ej).1)); have HX3 := Lib.hid (HX2.out.kept HA2.out hgrow); have HA3 := Lib.hid (Rw.ap_app HX2.out HA2.out hat); clear hown hgrow hat) | (go_at_call 137; refine HPC.out.mono ?_; rintro e w2 ⟨a, c', sv', rv', rfl, hX2, hS2, hF2, hN1, hN2⟩; obtain ⟨z1, z2, z3⟩ := HPZ.out q w2 sv' rv' hX2 hF2 hN1 hN2; have HO2 := Lib.hid z1; have HA2 := Lib.hid z2; have HB2 := Lib.hid z3; have HS2 := Lib.hid hS2; have HX2 := Lib.hid hX2; clear hX2 hS2 hF2 hN1 hN2 z1 z2 z3))
          go_roundw
          case rel => exact ⟨i + 1, sv', rv', q.1, acc ++ q.2, v3, by omega, by go_num, rfl, HX3.out, H3.out, by rw [List.length_append, HNL.out, HML.out]; have h := HO3.out; unfold pixs; rw [List.map_append]; exact h, HA3.out, by rw [List.length_append, HNL.out, HML.out]; have := HGR.out; omega, HB3.out, HV2.out⟩
          case measure => simp [intOf]; omega
      · have HV2 : Hid (t0 = ([], 6)) := by
          show _ = _
          rw [hV, List.drop_of_length_le (by rw [HLB.out]; omega), Rw.readF_nil]
        clear hV hgr hsl
        go_wp2
        go_returns
        exact rwd_nil HV2.out HB.out
  · have HN := Lib.hid (rwNew_no h hf hm)
    have HV0 : Hid (Rw.readV h bs = ([], 1)) := Lib.hid (if_neg hm)
    obtain ⟨t0, ht0⟩ : ∃ t, Rw.readV h bs = t := ⟨_, rfl⟩
    rw [ht0] at HV0 ⊢
    clear hf hm ht0
    unfold agH at HN ⊢
    go_enter Tryz.func99, Tryz.ntmps99
    go_wp2_with (go_at_call 136; refine (HN.out _).mono ?_; rintro e w9 ⟨rfl, hb9⟩; have hBz := Lib.hid (((Below.refl _ w).alloc (Nat.le_refl _) _).trans (hb9.mono (by simp))))
    go_returns
    exact rwd_nil HV0.out hBz.out
end Go.Proofs.YtkjkepnailamnaaGreat

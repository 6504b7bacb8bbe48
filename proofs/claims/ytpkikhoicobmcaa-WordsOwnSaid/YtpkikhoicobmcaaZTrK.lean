/- A node made below another one, over any memory. Condition: the path is new; the tree is of few nodes. -/
import Derived.Test.YtpkikhoicobmcaaZgAB
namespace Go.Proofs.Ytpkikhoicobmcaa
open Go.RowKit
set_option linter.unusedVariables false
open Tr
theorem kids_len9 {w : World} {B tb nb nc : Nat} {rv : Nat → Value} {L W : LL} (h : TrP w B tb nb nc rv L W) (n : Nat) (hn : n < L.length) : w.ownsRow B 3 1 (rv (2 * n + 1)) (kids L n).length (((kids L n).map fun (j : Nat) => (j : Int)).map (Value.int .i64)) := by
  have hr := TrX.rows h (2 * n + 1) (by omega)
  have hl : (data L W (2 * n + 1)).length = (kids L n).length := by rw [data_kids]; simp
  rwa [hl, data_kids] at hr
theorem insN_ints {L : LL} {x : List Int} (h : Inv L) (h1 : x ∉ L) {n : Nat} {p : Int} (hx : x = L.getD n [] ++ [p]) (hn : n < L.length) :
    ((kids L n).map fun (j : Nat) => (j : Int)).take (place ((kids L n).map (num L)) p) ++ (L.length : Int) :: ((kids L n).map fun (j : Nat) => (j : Int)).drop (place ((kids L n).map (num L)) p) = (kids (L ++ [x]) n).map fun (j : Nat) => (j : Int) := by
  have hd : x.dropLast = L.getD n [] := by rw [hx]; simp
  have hm : x.dropLast ∈ L := by rw [hd]; exact gD_mem hn
  rw [kids_old h h1 hm hn, if_pos (by rw [hd]; exact findV_self h.nd hn)]
  unfold insN
  have e1 : (kids L n).map (num (L ++ [x])) = (kids L n).map (num L) := List.map_congr_left fun i hi => num_old (kids_mem.1 hi).1
  have e2 : num (L ++ [x]) L.length = p := by rw [num_new, hx]; simp
  rw [e1, e2, List.map_append, List.map_cons, List.map_take, List.map_drop]
theorem grown_ad {w w5 : World} {o : Obj} {row : Option Nat} (h : (w.alloc o).drew.grownBy w5 row) : w.grownBy w5 row := by
  have hs : (w.alloc o).drew.heap.size = w.heap.size + 1 := by show (w.alloc o).heap.size = _; simp
  have hg : w.grownBy (w.alloc o).drew row := ⟨rfl, rfl, rfl, by rw [hs]; omega, fun k hk _ => heap_alloc_old w o k hk⟩
  exact grown_trans' hg h
theorem own_at {nb N nc gg H k : Nat} (h : (Value.slice (some ⟨nb, 0, none⟩) N nc).ownBlock = some gg ∨ gg = H) (hk : k ≤ H) : gg = nb ∨ k ≤ gg := by
  rcases h with e | e
  · left; simpa [Value.ownBlock] using e.symm
  · right; omega
theorem grow_done {w' : World} {B tb gg cc n N : Nat} {rv : Nat → Value} {L W : LL} {p : Int} {ys : List Int} (hI : Inv L) (hW : ∀ x ∈ W, x ∈ L) (hx : L.getD n [] ++ [p] ∉ L) (hN : L.length = N) (hn : n < N) {d : Int} (hd : d = ((L.getD n []).length : Int)) (hy : ys = (kids (L ++ [L.getD n [] ++ [p]]) n).map fun (j : Nat) => (j : Int))
    (h : TrX w' B tb gg cc (N + 1) (upd (fd L) N (p, (n : Int), d + 1)) rv (upd (upd (upd (data L W) (2 * n + 1) ys) (2 * N + 1) []) (2 * N + 2) [])) : TrP w' B tb gg cc rv (L ++ [L.getD n [] ++ [p]]) W := by
  subst hN
  obtain ⟨x, hxe⟩ : ∃ x, L.getD n [] ++ [p] = x := ⟨_, rfl⟩
  have hdl : x.dropLast = L.getD n [] := by rw [← hxe]; simp
  have hm : x.dropLast ∈ L := by rw [hdl]; exact gD_mem hn
  have hfn : findV L x.dropLast = (n : Int) := by rw [hdl]; exact findV_self hI.nd hn
  rw [hxe] at hx hy ⊢
  have e : (L ++ [x]).length = L.length + 1 := by simp
  unfold TrP
  rw [e]
  refine TrX.congr h (fun k hk => ?_) (fun i hi => ?_)
  · by_cases hkN : k = L.length
    · subst hkN
      rw [upd_at]
      unfold fd
      have hxl : (x.length : Int) = d + 1 := by rw [← hxe, hd]; simp
      rw [num_new, par_new hI hm, hfn, ← hxe]
      unfold depV out
      rw [if_neg (by rw [hxe, e]; omega), Int.toNat_natCast, hxe, gD_new, hxl, ← hxe]
      simp
    · have hk' : k < L.length := by omega
      rw [upd_ne _ _ hkN]
      unfold fd
      rw [num_old hk', par_old hI hk']
      unfold depV out
      rw [if_neg (by omega), if_neg (by rw [e]; omega), Int.toNat_natCast, gD_app hk']
  · have hcase : i = 0 ∨ (∃ k, k ≤ L.length ∧ i = 2 * k + 1) ∨ (∃ k, k ≤ L.length ∧ i = 2 * k + 2) := by
      rcases Nat.eq_zero_or_pos i with h0 | h0
      · exact .inl h0
      · rcases Nat.mod_two_eq_zero_or_one i with h2 | h2
        · exact .inr (.inr ⟨i / 2 - 1, by omega, by omega⟩)
        · exact .inr (.inl ⟨i / 2, by omega, by omega⟩)
    rcases hcase with rfl | ⟨k, hk, rfl⟩ | ⟨k, hk, rfl⟩
    · rw [upd_ne _ _ (by omega), upd_ne _ _ (by omega), upd_ne _ _ (by omega), data_ends, data_ends, endsV_grow hW]
    · rw [upd_ne _ _ (by omega), data_kids]
      by_cases hkN : k = L.length
      · subst hkN
        rw [upd_at, kids_new hI hx hm]; rfl
      · rw [upd_ne _ _ (by omega)]
        by_cases hkn : k = n
        · subst hkn; rw [upd_at, hy]
        · rw [upd_ne _ _ (by omega), data_kids, kids_old hI hx hm (by omega), if_neg (by rw [hfn]; omega)]
    · rw [data_words, wordsV_grow hW]
      by_cases hkN : k = L.length
      · subst hkN
        rw [upd_at, wordsV_out hW]
        unfold out; omega
      · rw [upd_ne _ _ (by omega), upd_ne _ _ (by omega), upd_ne _ _ (by omega), data_words]
theorem more_still {w w1 : World} {B tb nb nc n : Nat} {f : Nat → Nd} {rv : Nat → Value} {xs : Nat → List Int} (h : TrX w B tb nb nc n f rv xs) (hg : w.grownBy w1 (some nb)) : w1.cell? ⟨tb, 0, none⟩ = some (.slice (some ⟨nb, 0, none⟩) n nc) ∧ w1.frozen? ⟨tb, 0, none⟩ = false := by
  have hb : w1.heap[tb]? = w.heap[tb]? := hg.block tb (h.lt (.inl rfl)).2 (fun e => by injection e with e; exact h.tb_ne e)
  exact ⟨(World.cell?_of_block (w := w) (a := ⟨tb, 0, none⟩) hb).trans h.boxes.1, (World.frozen?_of_block (w := w) (a := ⟨tb, 0, none⟩) hb).trans (h.bfr 0)⟩
theorem grow_push {w w9 : World} {B tb nb nc n N m z g c9 : Nat} {f : Nat → Nd} {rv : Nat → Value} {xs : Nat → List Int} {ks : List Int} {L : LL} (h : TrX w B tb nb nc L.length f rv xs) (hN : L.length = N) (hn : n < N) (hk : ks.length = m)
    (hh : w9.ownsRow B 3 1 (.slice (some ⟨g, 0, none⟩) (m + 1) c9) (m + 1) ((ks.take z ++ (N : Int) :: ks.drop z).map (Value.int .i64)) ∧ w.grownBy w9 (rv (2 * n + 1)).ownBlock ∧ ((rv (2 * n + 1)).ownBlock = some g ∨ w.heap.size ≤ g)) :
    TrX (w9.setCell ⟨nb, n * 5 + 3, none⟩ (.slice (some ⟨g, 0, none⟩) (m + 1) c9)) B tb nb nc N f (upd rv (2 * n + 1) (.slice (some ⟨g, 0, none⟩) (m + 1) c9)) (upd xs (2 * n + 1) (ks.take z ++ (N : Int) :: ks.drop z)) := by
  subst hN
  obtain ⟨h1, h2, h3⟩ := hh
  have hl : (ks.take z ++ (L.length : Int) :: ks.drop z).length = m + 1 := by
    have := h1.1; rw [List.length_map, Nat.mul_one] at this; exact this
  refine h.push (by omega) (by rw [hl]; exact h1) h2 ?_ _ (by rw [if_neg (by omega), at5_kids])
  rcases h3 with e | e
  · exact .inl e.symm
  · exact .inr ⟨g, rfl, e⟩
theorem grow_pushT {w w9 : World} {B tb nb nc n N m g c9 : Nat} {f : Nat → Nd} {rv : Nat → Value} {xs : Nat → List Int} {L : LL} {P : Prop} (h : TrX w B tb nb nc L.length f rv xs) (hN : L.length = N) (hn : n < N)
    (hh : P ∧ w.grownBy w9 (rv (2 * n + 1)).ownBlock ∧ ((rv (2 * n + 1)).ownBlock = some g ∨ w.heap.size ≤ g)) :
    Turn w (Fp tb nb N rv) (w9.setCell ⟨nb, n * 5 + 3, none⟩ (.slice (some ⟨g, 0, none⟩) (m + 1) c9)) (Fp tb nb N (upd rv (2 * n + 1) (.slice (some ⟨g, 0, none⟩) (m + 1) c9))) := by
  subst hN
  obtain ⟨_, h2, h3⟩ := hh
  refine TrX.push_turn h (by omega) h2 ?_ _ (.inr rfl)
  rcases h3 with e | e
  · exact .inl e.symm
  · exact .inr ⟨g, rfl, e⟩
set_option maxRecDepth 100000 in
set_option maxHeartbeats 4000000 in
theorem grow_tr {w : World} {B tb nb nc : Nat} {rv : Nat → Value} {L W : LL} (h : TrP w B tb nb nc rv L W) (hI : Inv L) (hW : ∀ x ∈ W, x ∈ L) (n : Nat) (hn : n < L.length) (p : Int) (hx : L.getD n [] ++ [p] ∉ L) (hlen : L.length ≤ 1000) (hdep : (L.getD n []).length ≤ 1000) (hB : B ≤ w.heap.size) :
    Calls Try.prog 56 #[.pointer (some ⟨tb, 0, none⟩), .int .i64 n, .int .u64 p] w fun e w' => e = .returned (.int .i64 L.length) ∧ ∃ nb' nc' rv', TrP w' B tb nb' nc' rv' (L ++ [L.getD n [] ++ [p]]) W ∧ Turn w (Fp tb nb L.length rv) w' (Fp tb nb' (L.length + 1) rv') := by
  have HT := Lib.hid h
  have HI := Lib.hid hI
  have HX := Lib.hid hx
  have HWs := Lib.hid hW
  have HH := Lib.hid (halve_tr h n hn p)
  have hr := kids_len9 h n hn
  have hkl : (kids L n).length ≤ 1000 := Nat.le_trans (kids_len L n) hlen
  have hpl := place_le ((kids L n).map (num L)) p
  rw [List.length_map] at hpl
  obtain ⟨a, c, ev⟩ := Tr.own_form hr
  have hro : ∀ i, i = 2 * n + 1 → (rv i).ownBlock = (Value.slice a (kids L n).length c).ownBlock := fun i hi => by rw [hi, ev]
  have HRO := Lib.hid hro
  rw [ev] at hr HH
  have HIN := Lib.hid (insN_ints hI hx rfl hn)
  have hcs := TrX.cells h hn
  obtain ⟨b0, b1⟩ := TrX.boxes h
  have bf0 := TrX.bfr h 0
  have c2 := hcs.2.2.1
  have c3 := hcs.2.2.2.1
  rw [ev] at c3
  have f3 := TrX.fr h (n * 5 + 3)
  have hn9 := h.len9
  have hd0 : depV L n = ((L.getD n []).length : Int) := by unfold depV; rw [if_neg (by unfold out; omega)]; simp
  have c2' : w.cell? ⟨nb, n * 5 + 2, none⟩ = some (.int .i64 (depV L n)) := c2
  have hz : ∀ z, Hid (place ((kids L n).map (num L)) p = z) → True := fun _ _ => trivial
  obtain ⟨z, hzp⟩ : ∃ z, place ((kids L n).map (num L)) p = z := ⟨_, rfl⟩
  obtain ⟨ks, hks⟩ : ∃ ks, (kids L n).map (fun (j : Nat) => (j : Int)) = ks := ⟨_, rfl⟩
  obtain ⟨m, hm⟩ : ∃ m, (kids L n).length = m := ⟨_, rfl⟩
  rw [hzp] at HH hpl HIN
  rw [hks] at hr HIN
  rw [hm] at hr HH hkl hpl c3 HRO
  have HR := Lib.hid hr
  have HKL : Hid (ks.length = m) := Lib.hid (by rw [← hks, List.length_map]; exact hm)
  obtain ⟨N, hN⟩ : ∃ N, L.length = N := ⟨_, rfl⟩
  have HN := Lib.hid hN
  rw [hN] at hn hlen b0 hn9 HIN ⊢
  obtain ⟨d, hd⟩ : ∃ d, depV L n = d := ⟨_, rfl⟩
  have HD := Lib.hid hd
  rw [hd] at c2'
  have HC2 := Lib.hid c2'
  have hdl0 : 0 ≤ d := by rw [← hd, hd0]; omega
  have hdl1 : d ≤ 1000 := by rw [← hd, hd0]; omega
  have HDEP := Lib.hid hd0
  clear h hI hx hW hr hro ev hcs b1 c2 hd0 hz hzp hks hm hN hd c2' hdep
  have hnI : (n : Int) < (N : Int) := by omega
  have hn0 : (0 : Int) ≤ (n : Int) := Int.natCast_nonneg _
  have HINS : Hid (∀ W, W = (w.alloc (.cells #[.int .i64 (N : Int)] 3)).drew → Calls Try.prog 79 #[.slice a m c, .int .i64 z, .slice (some ⟨w.heap.size, 0, none⟩) 1 1] W fun e w9 => ∃ g c9, e = .returned (.slice (some ⟨g, 0, none⟩) (m + 1) c9) ∧ w9.cell? ⟨nb, n * 5 + 3, none⟩ = some (.slice a m c) ∧ w9.frozen? ⟨nb, n * 5 + 3, none⟩ = false ∧ w9.cell? ⟨tb, 0, none⟩ = some (.slice (some ⟨nb, 0, none⟩) N nc) ∧
      w9.ownsRow B 3 1 (.slice (some ⟨g, 0, none⟩) (m + 1) c9) (m + 1) ((ks.take z ++ (N : Int) :: ks.drop z).map (Value.int .i64)) ∧ w.grownBy w9 (rv (2 * n + 1)).ownBlock ∧ ((rv (2 * n + 1)).ownBlock = some g ∨ w.heap.size ≤ g)) := Lib.hid fun W hWe => by
    subst hWe
    have hsz : (w.alloc (.cells #[.int .i64 (N : Int)] 3)).drew.heap.size = w.heap.size + 1 := by show (w.alloc _).heap.size = _; simp
    refine (insert_tr B (.slice a m c) m z ks (N : Int) w.heap.size (w.alloc (.cells #[.int .i64 (N : Int)] 3)).drew (HR.out.alloc _) hpl (by omega) (by rw [hsz]; omega) (World.alloc_heap_new w _) (fun e => by have := (HR.out.lt _ e).2; omega)).mono ?_
    rintro e w9 ⟨g, c9, rfl, hown, hgrow, hat⟩
    have hg1 : w.grownBy (w.alloc (.cells #[.int .i64 (N : Int)] 3)).drew (Value.slice a m c).ownBlock := ⟨rfl, rfl, rfl, by rw [hsz]; omega, fun k hk _ => heap_alloc_old w _ k hk⟩
    have hg0 : w.grownBy w9 (rv (2 * n + 1)).ownBlock := by rw [HRO.out _ rfl]; exact grown_trans' hg1 hgrow
    have hst := TrX.still HT.out (by rw [HN.out]; omega) hg0
    refine ⟨g, c9, rfl, (hst ⟨nb, n * 5 + 3, none⟩ (.inl rfl)).1.trans c3, (hst ⟨nb, n * 5 + 3, none⟩ (.inl rfl)).2.trans f3, (hst ⟨tb, 0, none⟩ (.inr rfl)).1.trans b0, hown, hg0, ?_⟩
    rcases hat with h1 | h1
    · left; rw [HRO.out _ rfl]; exact h1
    · right; omega
  have b0a := cell_later (box1T w (.cells #[.int .i64 (N : Int)] 3)) b0
  have c3a := cell_later (box1T w (.cells #[.int .i64 (N : Int)] 3)) c3
  go_enter Try.func56, Try.ntmps56
  go_upto_region 3 with (go_at_call 78; refine HH.out.mono ?_; rintro e w1 ⟨rfl, rfl⟩)
  go_cut [7] from 26 to 44 (fun s7 wx => s7 = .int .i64 (N : Int) ∧ ∃ g c9, TrX wx B tb nb nc N (fd L) (upd rv (2 * n + 1) (.slice (some ⟨g, 0, none⟩) (m + 1) c9)) (upd (data L W) (2 * n + 1) (ks.take z ++ (N : Int) :: ks.drop z)) ∧ Turn w (Fp tb nb N rv) wx (Fp tb nb N (upd rv (2 * n + 1) (.slice (some ⟨g, 0, none⟩) (m + 1) c9))))
  case first =>
    go_region_law (go_simp; go_at_call 79; refine (HINS.out _ rfl).mono ?_; rintro e w9 ⟨g, c9, rfl, hh⟩; have q3 := hh.1; have qf := hh.2.1; have q0 := hh.2.2.1; have HH9 := Lib.hid hh.2.2.2; clear hh)
    all_goals
      go_wp2_with fail
      go_meet
      case rel => exact ⟨rfl, g, c9, grow_push HT.out HN.out hn HKL.out HH9.out, grow_pushT HT.out HN.out hn HH9.out⟩
  case rest =>
    obtain ⟨rfl, g, c9, hT3, hTu⟩ := hcut
    have HT3 := Lib.hid hT3
    have HTu := Lib.hid hTu
    clear b0 bf0 c3 f3 b0a c3a hT3 hTu
    obtain ⟨b0, b1⟩ := TrX.boxes HT3.out
    have c2 := (TrX.cells HT3.out hn).2.2.1
    have c2' : wc.cell? ⟨nb, n * 5 + 2, none⟩ = some (.int .i64 d) := by rw [← HD.out]; exact c2
    have bf0 := TrX.bfr HT3.out 0
    clear b1 c2
    obtain ⟨i0, hi, hz0, hz1, hz2⟩ := info_parts Try.info_nd
    have e1 : IntKind.i64.wrap (d + 1) = d + 1 := by rw [IntWalk.i64_in] <;> omega
    have b0a := cell_later (box1T wc (.cells #[.int .u64 p, .int .i64 (n : Int), .int .i64 (d + 1), .slice none 0 0, .slice none 0 0] 93)) b0
    have c2a := cell_later (box1T wc (.cells #[.int .u64 p, .int .i64 (n : Int), .int .i64 (d + 1), .slice none 0 0, .slice none 0 0] 93)) c2'
    have HBs := Lib.hid (Nat.le_trans hB HTu.out.sep.size)
    go_wp2_with fail
    go_region_law (refine step_append_lies _ rfl _ _ 83 rfl B 93 i0 (.agg #[.int .u64 0, .int .i64 0, .int .i64 0, .slice none 0 0, .slice none 0 0]) 5 72 Try.underlying83 hi hz0 hz1 hz2 rfl (by decide) (.slice (some ⟨nb, 0, none⟩) N nc) N _ rfl (HT3.out.row.alloc _) ⟨wc.heap.size, 0, none⟩ 1 1 [.int .u64 p, .int .i64 (n : Int), .int .i64 (d + 1), .slice none 0 0, .slice none 0 0] rfl rfl (five_new _ _ _ _ _ _ _) (by simp [Value.oneCell']) (by omega) (by unfold maxLen; omega) (by omega) (by have := HBs.out; simp; omega) _ rfl ?_; intro gg cc w5 hown hgrow hat _; have hg5 := grown_ad (w := wc) (o := (.cells #[.int .u64 p, .int .i64 (n : Int), .int .i64 (d + 1), .slice none 0 0, .slice none 0 0] 93)) hgrow; have hst := more_still HT3.out hg5; have q0 := hst.1; have qf := hst.2; have HOWN := Lib.hid hown; have HG5 := Lib.hid hg5; have HAT := Lib.hid (own_at (k := wc.heap.size) hat (by simp)); clear hown hgrow hat hg5 hst)
    all_goals
      go_wp2_with fail
      go_ret
      exact ⟨rfl, _, _, _, grow_done HI.out HWs.out HX.out HN.out hn (by rw [← HD.out]; exact HDEP.out) HIN.out (TrX.more HT3.out HOWN.out HG5.out HAT.out), HTu.out.trans (TrX.more_turn HT3.out HG5.out HAT.out)⟩
end Go.Proofs.Ytpkikhoicobmcaa

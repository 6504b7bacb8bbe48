/- What a builder of strings takes, over any memory: which blocks may change is told. Condition: not too long. -/
import Derived.Test.YtmnhiagppicegaaGreatZPlSh
import Derived.Test.YtmnhiagppicegaaGreatZgAE
import Derived.Lib.AppendStr
namespace Go.Proofs.YtmnhiagppicegaaGreat
open Go.RowKit Go.Shelf
set_option linter.unusedVariables false
/-- a builder's two cells -/
def Bd (w : World) (b : Nat) (p v : Value) : Prop := w.heap[b]? = some (.cells #[p, v] 214 (0, 0))
theorem Bd.lt {w : World} {b : Nat} {p v : Value} (h : Bd w b p v) : b < w.heap.size := (Array.getElem?_eq_some_iff.1 h).1
theorem Bd.c0 {w : World} {b : Nat} {p v : Value} (h : Bd w b p v) : w.cell? ⟨b, 0, none⟩ = some p := by have h' : w.heap[b]? = _ := h; simp [World.cell?, h']
theorem Bd.c1 {w : World} {b : Nat} {p v : Value} (h : Bd w b p v) : w.cell? ⟨b, 1, none⟩ = some v := by have h' : w.heap[b]? = _ := h; simp [World.cell?, h']
theorem Bd.f {w : World} {b : Nat} {p v : Value} (h : Bd w b p v) (o : Nat) : w.frozen? ⟨b, o, none⟩ = false := by have h' : w.heap[b]? = _ := h; simp [World.frozen?, h']
theorem Bd.put0 {w : World} {b : Nat} {p v : Value} (h : Bd w b p v) (q : Value) : Bd (w.setCell ⟨b, 0, none⟩ q) b q v := by
  have h' : w.heap[b]? = _ := h
  have := Go.heap_setCell_same w b 0 _ _ q h'
  simpa [Bd] using this
theorem Bd.put1 {w : World} {b : Nat} {p v : Value} (h : Bd w b p v) (u : Value) : Bd (w.setCell ⟨b, 1, none⟩ u) b p u := by
  have h' : w.heap[b]? = _ := h
  have := Go.heap_setCell_same w b 1 _ _ u h'
  simpa [Bd] using this
theorem copy_any (b : Nat) (p v : Value) (hp : p = .pointer none ∨ p = .pointer (some ⟨b, 0, none⟩)) (w : World) (h : Bd w b p v) :
    Calls Tryz.prog 172 #[.pointer (some ⟨b, 0, none⟩)] w fun e w' => e = .returned (.tuple #[]) ∧ Bd w' b (.pointer (some ⟨b, 0, none⟩)) v ∧ (w' = w ∨ w' = w.setCell ⟨b, 0, none⟩ (.pointer (some ⟨b, 0, none⟩))) := by
  rcases hp with rfl | rfl
  · have h' : w.heap[b]? = _ := h
    refine (Any.Builder_copyCheck_fresh Sh.lays240 Sh.Builder_Extra_156.toX72 b w h.c0 (by simp [World.shape?, h']; rfl) (h.f 0)).mono ?_
    rintro e w' ⟨rfl, rfl⟩
    exact ⟨rfl, h.put0 _, .inr rfl⟩
  · refine (Any.Builder_copyCheck_used Sh.lays240 Sh.Builder_Extra_156.toX72 b w h.c0).mono ?_
    rintro e w' ⟨rfl, rfl⟩
    exact ⟨rfl, h, .inl rfl⟩
/-- where the row lies that an append of a text's bytes yields -/
theorem run_str_hat {P : Program} {w : World} (base : Nat) (t u ty e : TypeId) (i : TypeInfo) (ht : P.underlying t = some (.slice e)) (hu : P.underlying u = some .string) (hi : P.info? e = some i) (hz : i.zero = some (.int .u8 0))
    (hsize : i.size = 1) (hby : i.bytes = 1) (v : Value) (n : Nat) (xs : List Value) (hown : w.ownsRow base e 1 v n xs) (s : ByteArray) (h63 : n + s.size ≤ maxLen) (hbytes : n + s.size ≤ 140737488355328) (hbase : base ≤ w.heap.size) :
    ∃ v' w', (Builtin.append_ #[t, u] ty #[v, .string s]).run P w = .ok v' w' ∧ w'.ownsRow base e 1 v' (n + s.size) (xs ++ Lib.strCells s) ∧ w.grownBy w' v.ownBlock ∧ (∀ g, v'.ownBlock = some g → v.ownBlock = some g ∨ w.heap.size ≤ g) := by
  obtain ⟨v', w', hr, h2, h3, h4⟩ := Lib.run_append_own_string (P := P) (w := w) base t u ty e i ht hu hi hz hsize hby v n xs hown s h63 hbytes hbase
  refine ⟨v', w', hr, h2, h3, ?_⟩
  rcases id hown.2 with ⟨rfl, rfl⟩ | ⟨g, cap, cur, rfl, hb, hg, hnc, hm, hsz, htk⟩
  · have hx : xs = [] := List.length_eq_zero_iff.1 (by simpa using hown.1)
    subst hx
    obtain ⟨v2, w2, hr2, k2, k3, k4⟩ := Lib.run_append_own_string (P := P) (w := w) w.heap.size t u ty e i ht hu hi hz hsize hby (.slice none 0 0) 0 [] (World.ownsRow_nil _ _ _ _) s h63 hbytes (Nat.le_refl _)
    rw [hr] at hr2
    injection hr2 with e1 e2
    subst e1
    exact fun g hg => .inr (k2.lt g hg).1
  · by_cases hroom : n + s.size ≤ cap
    · have := Lib.run_append_room_string (P := P) (w := w) t u ty e i ht hu hi hsize g n cap cur hg s hroom (by omega)
      rw [hr] at this
      injection this with e1 e2
      subst e1
      exact fun g' hg' => .inl hg'
    · have hxl : xs.length = n := by simpa using hown.1
      have holds : ∀ (j : Nat) u, xs[j]? = some u → w.cell? ((⟨g, 0, none⟩ : Addr).add j) = some u := fun j u hj => by
        have hjn : j < xs.length := (List.getElem?_eq_some_iff.1 hj).1
        rw [addrK_add, Nat.zero_add, hown.cellAt j (by omega)]; exact hj
      have := Lib.run_append_grow_string (P := P) (w := w) t u ty e i (.int .u8 0) ht hu hi hz ⟨g, 0, none⟩ n cap xs (by rw [hsize]; simpa using hxl) holds s (by omega) (by unfold maxLen at h63; omega) (by rw [hby]; exact growslice_fits (by omega) (by omega))
      rw [hr] at this
      injection this with e1 e2
      subst e1
      intro g' hg'
      simp only [Value.ownBlock] at hg'
      injection hg' with hg'
      exact .inr (by omega)
theorem Tryz.info_u8 : (Tryz.prog.info? 5).map (fun i => (i.zero, i.size, i.bytes)) = some (some (.int .u8 0), 1, 1) := by kernel_rfl
theorem wpList_str {P : Program} {w : World} {ops : Array Oper} {rest : List Oper} {o : Oper} {a : Act} {Q : Exit → Act → World → Prop} (hgd : o.guard = none) (sl x : Operand) (t u : TypeId)
    (ho : o.op = .call { callee := .builtin .append, args := #[sl, x], argTypes := #[t, u] })
    (base : Nat) (e : TypeId) (i : TypeInfo) (ht : P.underlying t = some (.slice e)) (hu : P.underlying u = some .string) (hi : P.info? e = some i) (hz : i.zero = some (.int .u8 0))
    (hsize : i.size = 1) (hby : i.bytes = 1)
    (v : Value) (n : Nat) (xs : List Value) (hs : a.eval sl = v) (hown : w.ownsRow base e 1 v n xs) (s : ByteArray) (hx : a.eval x = .string s)
    (h63 : n + s.size ≤ maxLen) (hbytes : n + s.size ≤ 140737488355328) (hbase : base ≤ w.heap.size)
    (h : ∀ v' w', w'.ownsRow base e 1 v' (n + s.size) (xs ++ Lib.strCells s) → w.grownBy w' v.ownBlock → (∀ g, v'.ownBlock = some g → v.ownBlock = some g ∨ w.heap.size ≤ g) → wpList P ops Q rest (a.put o.dst v') w') : wpList P ops Q (o :: rest) a w := by
  refine wpList_plain hgd fun K hK => ?_
  obtain ⟨v', w', hr, h2, h3, h4⟩ := run_str_hat (P := P) (w := w) base t u o.type e i ht hu hi hz hsize hby v n xs hown s h63 hbytes hbase
  unfold Oper.wp execOp
  simp only [ho, resolve, invoke, builtin, Sem.run_bind, Sem.run_pure, Result.andThen_ok, List.map_toArray, List.map_cons, List.map_nil, hs, hx, hr]
  exact hK _ _ (h v' w' h2 h3 h4)
theorem row_val {w : World} {base size n : Nat} {e : TypeId} {v : Value} {xs : List Value} (h : w.ownsRow base e size v n xs) : ∃ ad cap, v = .slice ad n cap := by
  rcases h.2 with ⟨rfl, rfl⟩ | ⟨g, cap, cur, rfl, -⟩
  · exact ⟨none, 0, rfl⟩
  · exact ⟨_, cap, rfl⟩
/-- a builder that holds these bytes; its row is one's own from a block on -/
structure Bl (w : World) (base b : Nat) (v : Value) (bs : List Value) : Prop where
  bd : ∃ p, (p = .pointer none ∨ p = .pointer (some ⟨b, 0, none⟩)) ∧ Bd w b p v
  row : w.ownsRow base 5 1 v bs.length bs
  ne : v.ownBlock ≠ some b
theorem Bl.sep {w w' : World} {base b : Nat} {v : Value} {bs : List Value} {Z : Nat → Prop} (h : Bl w base b v bs) (hs : Sep Z w w') (hz : ¬ Z b) (hv : ∀ g, v.ownBlock = some g → ¬ Z g) : Bl w' base b v bs := by
  obtain ⟨⟨p, hp, hb⟩, hr, hne⟩ := h
  refine ⟨⟨p, hp, (hs.block b hb.lt hz).trans hb⟩, ?_, hne⟩
  obtain ⟨h1, h2⟩ := hr
  refine ⟨h1, ?_⟩
  rcases h2 with h2 | ⟨g, cap, cur, rfl, k1, k2, k3⟩
  · exact .inl h2
  · refine .inr ⟨g, cap, cur, rfl, k1, ?_, k3⟩
    rw [hs.block g (Array.getElem?_eq_some_iff.1 k2).1 (hv g rfl)]; exact k2
set_option maxRecDepth 100000 in
set_option maxHeartbeats 2000000 in
theorem write_any (base b : Nat) (v : Value) (bs : List Value) (s : ByteArray) (w : World) (H : Bl w base b v bs) (hlen : bs.length + s.size ≤ 140737488355328) (hbase : base ≤ w.heap.size) :
    Calls Tryz.prog 142 #[.pointer (some ⟨b, 0, none⟩), .string s] w fun e w' => ∃ v', e = .returned (.tuple #[.int .i64 s.size, .nilIface]) ∧ Bl w' base b v' (bs ++ Lib.strCells s) ∧ Sep (fun k => k = b ∨ v.ownBlock = some k) w w' ∧ (∀ g, v'.ownBlock = some g → v.ownBlock = some g ∨ w.heap.size ≤ g) := by
  obtain ⟨⟨p, hp, hb⟩, hr, hne⟩ := H
  obtain ⟨i0, hi, hz0, hz1, hz2⟩ : ∃ i, Tryz.prog.info? 5 = some i ∧ i.zero = some (.int .u8 0) ∧ i.size = 1 ∧ i.bytes = 1 := (by have h := Tryz.info_u8; cases hh : Tryz.prog.info? 5 with | none => rw [hh] at h; cases h | some i => rw [hh] at h; simp at h; exact ⟨i, rfl, h.1, h.2.1, h.2.2⟩)
  have HCP := Lib.hid (copy_any b p v hp w hb)
  have HR := Lib.hid hr
  have hlt := hb.lt
  have HNE := Lib.hid hne
  obtain ⟨n, hn⟩ : ∃ n, bs.length = n := ⟨_, rfl⟩
  rw [hn] at HR hlen
  have HN := Lib.hid hn
  clear hb hr hp hne hn
  go_enter Tryz.func142, Tryz.ntmps142
  go_wp2_with fail
  refine HCP.out.mono ?_
  rintro e w1 ⟨rfl, hb1, hw1⟩
  have hs1 : Sep (fun k => k = b) w w1 := by
    rcases hw1 with rfl | rfl
    · exact .refl _ _
    · exact Sep.setCell (Z := fun k => k = b) (b := b) (o := 0) (p := none) _ rfl _
  have hsz : w1.heap.size = w.heap.size := by rcases hw1 with rfl | rfl <;> simp [World.setCell]
  have HR1 : Hid (w1.ownsRow base 5 1 v n bs) := by
    refine Lib.hid ?_
    obtain ⟨h1, h2⟩ := HR.out
    refine ⟨h1, ?_⟩
    rcases h2 with h2 | ⟨g, cap, cur, rfl, k1, k2, k3⟩
    · exact .inl h2
    · refine .inr ⟨g, cap, cur, rfl, k1, ?_, k3⟩
      rw [hs1.block g (Array.getElem?_eq_some_iff.1 k2).1 (fun e => HNE.out (by rw [e]; rfl))]; exact k2
  have HS1 := Lib.hid hs1
  have HD1 := Lib.hid hb1
  have c1 := hb1.c1
  have f1 := hb1.f 1
  have hl1 := hb1.lt
  clear hs1 hb1 hw1
  go_wp2_with (at_builtin; refine wpList_str rfl _ _ 43 9 rfl base 5 i0 Tryz.underlying43 Tryz.underlying9 hi hz0 hz1 hz2 v n bs rfl HR1.out s rfl (by unfold maxLen; omega) hlen (by omega) ?_; intro v2 w2 hown hgrow hat; obtain ⟨ad2, cp2, rfl⟩ := row_val hown; have HO2 := Lib.hid hown; have HG2 := Lib.hid hgrow; have HA2 := Lib.hid hat; have hd2 : Bd w2 b (.pointer (some ⟨b, 0, none⟩)) v := (hgrow.block b hl1 (fun e => HNE.out e.symm)).trans HD1.out; have HD2 := Lib.hid hd2; have d1 := hd2.c1; have g1 := hd2.f 1; have hl2 := hd2.lt; clear hown hgrow hat hd2 c1 f1)
  go_ret2
  obtain ⟨u2, hu2⟩ : ∃ u2, Value.slice ad2 (n + s.size) cp2 = u2 := ⟨_, rfl⟩
  have ho := HO2.out
  have ha := HA2.out
  rw [hu2] at ho ha ⊢
  have hne2 : u2.ownBlock ≠ some b := fun e => by
    rcases ha b e with h | h
    · exact HNE.out h
    · omega
  have hsep : Sep (fun k => k = b ∨ v.ownBlock = some k) w (w2.setCell ⟨b, 1, none⟩ u2) := by
    have s1 : Sep (fun k => k = b ∨ v.ownBlock = some k) w w1 := HS1.out.mono fun k hk => .inl hk
    have s2 : Sep (fun k => k = b ∨ v.ownBlock = some k) w1 w2 := ⟨HG2.out.os, HG2.out.tape, HG2.out.output, HG2.out.size, fun k hk hz => HG2.out.block k hk fun e => hz (.inr e.symm)⟩
    exact (s1.trans s2).trans (Sep.setCell (Z := fun k => k = b ∨ v.ownBlock = some k) (b := b) (o := 1) (p := none) _ (.inl rfl) _)
  refine ⟨u2, rfl, ⟨⟨_, .inr rfl, HD2.out.put1 u2⟩, ?_, hne2⟩, hsep, fun g hg => by rw [← hsz]; exact ha g hg⟩
  rw [List.length_append, Lib.strCells_length, HN.out]
  obtain ⟨h1, h2⟩ := ho
  refine ⟨h1, ?_⟩
  rcases h2 with h2 | ⟨g, cap, cur, e, k1, k2, k3⟩
  · exact .inl h2
  · refine .inr ⟨g, cap, cur, e, k1, ?_, k3⟩
    rw [Go.heap_setCell_other _ _ _ _ (fun e2 => hne2 (by rw [e, e2]; rfl))]; exact k2
end Go.Proofs.YtmnhiagppicegaaGreat

/- Plain facts on lines of a raster of digits: a row's parts are its text. No condition. -/
namespace Go.Proofs.YtmnhiagppicegaaGreat
open Go.RowKit
set_option linter.unusedVariables false
namespace Pl
theorem joinI_nil : ∀ xs : List (List Int), joinI [] xs = xs.flatten
  | [] => rfl
  | [x] => by simp [joinI]
  | x :: y :: r => by
    have := joinI_nil (y :: r)
    simp only [joinI, this]
    simp
theorem wTk_join {G : Hd.H} {p : Int} (hp : Pq.GoodP p (Hj.chan G) G.m) : wTk (Pq.Px.smp p) (Pq.Px.smp p).length = joinI [32] ((Pq.Px.smp p).map Nu.decV) := by
  rcases hp with ⟨hc, x, y, z, h3, -⟩ | ⟨hc, x, h1, -⟩
  · rw [Pq.Px.smp3 h3]; simp [wTk, joinI]
  · rw [Pq.Px.smp1 h1]; simp [wTk, joinI]
theorem wTk_one {G : Hd.H} {p : Int} (hm : May G) (hk : G.kd = 1) (hp : Pq.GoodP p (Hj.chan G) G.m) : wTk (Pq.Px.smp p) (Pq.Px.smp p).length = ((Pq.Px.smp p).map Nu.decV).flatten := by
  have hc := chan13 hm
  rcases hp with ⟨hc2, -⟩ | ⟨hc2, x, h1, -⟩
  · omega
  · rw [Pq.Px.smp1 h1]; simp [wTk]
theorem wLn_one {G : Hd.H} {n gw x : Nat} (hk : G.kd = 1) (hg : G.w = (gw : Int)) (hx : n % gw = x) : wLn G n = (decide (x + 1 = gw) || decide (x % 70 = 69)) := by
  have e : (n : Int) % (gw : Int) = (x : Int) := by rw [← hx]; simp
  unfold wLn
  rw [hg, e, hk]
  have h1 : (((x : Int) == (gw : Int) - 1) : Bool) = decide (x + 1 = gw) := by
    rw [Bool.eq_iff_iff]; simp; omega
  have h2 : (((x : Int) % 70 == 69) : Bool) = decide (x % 70 = 69) := by
    rw [Bool.eq_iff_iff]; simp; omega
  rw [h1, h2]; simp
theorem part_mid {G : Hd.H} {l : List Int} {i gw x0 r : Nat} (hm : May G) (hl : Fits G l) (hk : G.kd = 1) (hg : G.w = (gw : Int)) (hi : i % gw = x0) (hr : x0 + r ≤ gw) (hr7 : x0 % 70 = 0) (hr70 : r ≤ 70) (hil : i + r ≤ l.length) :
    ∀ j, j < r → wAll G l (i + j) = wAll G l i ++ ((((l.drop i).take j).flatMap Pq.Px.smp).map Nu.decV).flatten
  | 0, _ => by simp
  | j + 1, hj => by
    have ih := part_mid hm hl hk hg hi hr hr7 hr70 hil j (by omega)
    have hgd := hl _ (getD_mem (show i + j < l.length by omega))
    have hx : (i + j) % gw = x0 + j := by
      have h0 := Nat.div_add_mod i gw
      rw [show i + j = gw * (i / gw) + (x0 + j) by omega, Nat.mul_add_mod, Nat.mod_eq_of_lt (by omega)]
    have hw : wLn G (i + j) = false := by
      rw [wLn_one hk hg hx]
      have h1 : ¬ (x0 + j + 1 = gw) := by omega
      have h2 : ¬ ((x0 + j) % 70 = 69) := by omega
      simp [h1, h2]
    rw [← Nat.add_assoc, wAll_succ, hw, if_neg (by simp), List.append_nil, ih, wTk_one hm hk hgd]
    have ht : (l.drop i).take (j + 1) = (l.drop i).take j ++ [l.getD (i + j) 0] := (take_part (by omega) rfl).symm
    rw [ht]
    simp
/-- a row's k-th part -/
theorem row_part {G : Hd.H} {l : List Int} {gw gh c : Nat} {sep : List Int} (hm : May G) (hl : Fits G l) (hg : G.w = (gw : Int)) (hN : l.length = gw * gh) (hkc : (G.kd = 1 ∧ c = 70 ∧ sep = []) ∨ (¬ G.kd = 1 ∧ c = 1 ∧ sep = [32])) {y k F : Nat} (hF : y * gw = F) (hy : y < gh) (hk : c * k < gw) :
    wAll G l (F + (c * k + min c (gw - c * k))) = wAll G l (F + c * k) ++ (joinI sep ((((l.drop (F + c * k)).take (min c (gw - c * k))).flatMap Pq.Px.smp).map Nu.decV) ++ [10]) := by
  have hmm := hm.m
  have hFN : F + gw ≤ l.length := by
    rw [hN, ← hF, Nat.mul_comm gw gh, ← Nat.succ_mul]; exact Nat.mul_le_mul_right _ hy
  rcases hkc with ⟨h1, rfl, rfl⟩ | ⟨h1, rfl, rfl⟩
  · obtain ⟨r, hr⟩ : ∃ r, min 70 (gw - 70 * k) = r + 1 := ⟨min 70 (gw - 70 * k) - 1, by omega⟩
    rw [hr]
    obtain ⟨i, hi⟩ : ∃ i, F + 70 * k = i := ⟨_, rfl⟩
    rw [← Nat.add_assoc, hi]
    have him : i % gw = 70 * k := by rw [← hi, ← hF, Nat.mul_comm y gw, Nat.mul_add_mod, Nat.mod_eq_of_lt hk]
    have hmid := part_mid (r := r + 1) hm hl h1 hg him (by omega) (by omega) (by omega) (by omega) r (by omega)
    have hgd := hl _ (getD_mem (show i + r < l.length by omega))
    have hx : (i + r) % gw = 70 * k + r := by
      rw [← hi, ← hF, Nat.mul_comm y gw, Nat.add_assoc, Nat.mul_add_mod, Nat.mod_eq_of_lt (by omega)]
    have hw : wLn G (i + r) = true := by
      rw [wLn_one h1 hg hx]
      rcases (show 70 * k + r + 1 = gw ∨ (70 * k + r) % 70 = 69 by omega) with h | h
      · simp [h]
      · simp [h]
    rw [← Nat.add_assoc, wAll_succ, hw, if_pos rfl, hmid, wTk_one hm h1 hgd, joinI_nil]
    have ht : (l.drop i).take (r + 1) = (l.drop i).take r ++ [l.getD (i + r) 0] := (take_part (by omega) rfl).symm
    rw [ht]
    simp
  · rw [show min 1 (gw - 1 * k) = 1 by omega, Nat.one_mul]
    obtain ⟨i, hi⟩ : ∃ i, F + k = i := ⟨_, rfl⟩
    rw [← Nat.add_assoc, hi]
    have hil : i < l.length := by omega
    have hgd := hl _ (getD_mem hil)
    have hw : wLn G i = true := by
      have h2 : 1 < G.kd := by omega
      simp [wLn, h2]
    have ht : (l.drop i).take 1 = [l.getD i 0] := by
      have := take_part (l := l) (i := i) (a := i) (r := 0) hil rfl
      simpa using this.symm
    rw [wAll_succ, hw, if_pos rfl, wTk_join hgd, ht]
    simp
end Pl
def u8c (xs : List Int) : List Value := Lib.strCells (strOfNums xs)
theorem u8c_app (a b : List Int) : u8c (a ++ b) = u8c a ++ u8c b := by simp [u8c, Lib.strCells, strOfNums]
theorem u8c_len (a : List Int) : (u8c a).length = a.length := by rw [u8c, Lib.strCells_length, strOfNums_size]
end Go.Proofs.YtmnhiagppicegaaGreat

/- All pixels of a raster of digits, over any memory. Condition: the text is short, the head's numbers fit. -/
namespace Go.Proofs.YtmnhiagppicegaaGreat
open Go.RowKit
set_option linter.unusedVariables false

/-- as many as there are, and no more than may be -/
def Cp (n c : Nat) : Prop := n ≤ c ∧ c ≤ 9223372036854775807
def RdRc (t : List Int × Int × Int) (w : World) (e : Ending) (w' : World) : Prop :=
  ∃ a c, e = .returned (.tuple #[.slice a t.1.length c, .int .i64 t.2.1, .int .i64 t.2.2]) ∧ SlK .u64 w' a t.1.length t.1 ∧ Below w.heap.size w w' ∧ Cp t.1.length c
theorem rdrc_nil {t : List Int × Int × Int} {e1 e2 : Int} (ht : t = ([], e1, e2)) {w w' : World} (hB : Below w.heap.size w w') : RdRc t w (.returned (.tuple #[.slice none 0 0, .int .i64 e1, .int .i64 e2])) w' :=
  ⟨none, 0, by rw [ht]; rfl, by rw [ht]; exact slk_nil, hB, by rw [ht]; exact ⟨Nat.le_refl _, by omega⟩⟩
theorem rdrc_row {t : List Int × Int × Int} {l : List Int} {e1 e2 x : Int} (ht : t = (l, e1, e2)) (hx : x = e1) {w w' : World} {base k : Nat} {v : Value} (hr : w'.ownsRow base 26 1 v k (pixs l)) (hk : l.length = k) (hB : Below w.heap.size w w') : RdRc t w (.returned (.tuple #[v, .int .i64 x, .int .i64 e2])) w' := by
  obtain ⟨a, c, rfl, hs⟩ := slk_row hr hk
  have hc : Cp k c := by
    rcases hr.2 with ⟨h, h0⟩ | ⟨g9, cap9, cur9, h, _, _, h8, h9, _⟩
    · cases h; exact ⟨Nat.le_refl _, by omega⟩
    · cases h; exact ⟨h8, h9⟩
  subst hk; subst hx
  exact ⟨a, c, by rw [ht], by rw [ht]; exact hs, hB, by rw [ht]; exact hc⟩
set_option maxRecDepth 100000 in
set_option maxHeartbeats 4000000 in
theorem plReadC_any (s : ByteArray) (hsz : s.size ≤ 100000) (h : Hd.H) (hf : Hj.Fit h) (w : World) :
    Calls Tryz.prog 103 #[.string s, agH h] w (RdRc (Pl.readV h (bytesOf s)) w) := by
  by_cases hm : Pl.May h
  · have HN := Lib.hid (plNew_yes h hf hm)
    obtain ⟨t0, ht0⟩ : ∃ t, Pl.readV h (bytesOf s) = t := ⟨_, rfl⟩
    have HV0 : Hid (t0 = Pl.readF (Pl.new h) 0 [] (bytesOf s)) := by show _ = _; rw [← ht0]; exact if_pos hm
    rw [ht0]
    obtain ⟨p0, pi, pz0, pz1, pz2⟩ : ∃ i, Tryz.prog.info? 26 = some i ∧ i.zero = some (.int .u64 0) ∧ i.size = 1 ∧ i.bytes = 8 := (by have h := Tryz.info_px8; cases hh : Tryz.prog.info? 26 with | none => rw [hh] at h; cases h | some i => rw [hh] at h; simp at h; exact ⟨i, rfl, h.1, h.2.1, h.2.2⟩)
    clear ht0 hf hm
    unfold agH at HN ⊢
    go_enter Tryz.func103, Tryz.ntmps103
    go_wp2_with fail
    refine (HN.out _).mono ?_
    rintro e w1 ⟨b, rfl, hwb, hX, hb1⟩
    have HX1 := Lib.hid hX
    have HB1 := Lib.hid (((Below.refl _ w).alloc (Nat.le_refl _) _).trans (hb1.mono (by simp)))
    have HWB : Hid (w.heap.size ≤ b) := Lib.hid (by simp at hwb; omega)
    clear hX hb1 hwb
    go_wp2_with fail
    go_loopw [9, 25] (fun u9 u25 wr => ∃ (i : Nat) (sv rv : Value) (st : Pl.S) (acc : List Int) (v : Value), i ≤ s.size ∧ u25 = .int .i64 i ∧ v = u9 ∧ PlX wr b sv rv st ∧ st.last = 0 ∧ wr.ownsRow w.heap.size 26 1 v acc.length (pixs acc) ∧ Ap v b sv rv ∧ acc.length + st.row.length ≤ i ∧ Below w.heap.size w wr ∧ t0 = Pl.readF st i acc ((bytesOf s).drop i)) (fun _ u25 _ => s.size - (intOf u25).toNat)
    case atStart => exact ⟨0, _, _, Pl.new h, [], _, Nat.zero_le _, rfl, rfl, HX1.out, rfl, World.ownsRow_nil _ _ _ _, ap_nil _ _ _, Nat.le_refl _, HB1.out, HV0.out⟩
    case round =>
      obtain ⟨i, sv, rv, st, acc, v, hi1, rfl, rfl, hX, h0, hrow, hap, hgr, hB, hV⟩ := hrel
      have HX := Lib.hid hX
      have HROW := Lib.hid hrow
      have HAP := Lib.hid hap
      have HB := Lib.hid hB
      have H0 := Lib.hid h0
      have HG := Lib.hid hX.g
      obtain ⟨n, hn⟩ : ∃ n, acc.length = n := ⟨_, rfl⟩
      have HNL := Lib.hid hn
      rw [hn] at hgr
      have HROW' : Hid (wr.ownsRow w.heap.size 26 1 v n (pixs acc)) := by show World.ownsRow _ _ _ _ _ _ _; have h := hrow; rw [hn] at h; exact h
      have hn9 : n ≤ 100000 := by omega
      have HGR := Lib.hid hgr
      clear hX hrow hap hB h0 hn
      have HPZ : Hid (∀ (q : Pl.S × List Int) (w2 : World) sv' rv', PlX w2 b sv' rv' q.1 → Sep (PlZ b sv rv) wr w2 → PlNew wr sv sv' → PlNew wr rv rv' → w2.ownsRow w.heap.size 26 1 v n (pixs acc) ∧ Ap v b sv' rv' ∧ Below w.heap.size w w2) := Lib.hid fun q w2 sv' rv' hX2 hS hN1 hN2 =>
        ⟨row_sep HROW'.out hS HAP.out, ap_put HROW'.out HAP.out hN1 hN2, HB.out.trans (hS.below HB.out.size (fun k hk hz => by have := (HX.out.z k hz).1; have := HWB.out; omega))⟩
      by_cases hlt : i < s.size
      · rw [bytesOf_drop s i hlt] at hV
        have c0 : (0 : Int) ≤ (s[i].toNat : Int) := by omega
        have c1 : (s[i].toNat : Int) ≤ 255 := by have := s[i].toNat_lt; omega
        have HP := plPut_any (s[i].toNat : Int) c0 c1 wr b sv rv HX.out
        have hg' := Pl.put_grow st (s[i].toNat : Int)
        have hG' := (Pl.good_put HG.out (s[i].toNat : Int)).last
        obtain ⟨q, hq⟩ : ∃ q, Pl.put st (s[i].toNat : Int) = q := ⟨_, rfl⟩
        rw [hq] at HP hg' hG'
        obtain ⟨m, hm⟩ : ∃ m, q.2.length = m := ⟨_, rfl⟩
        have hml : m ≤ 100001 := by omega
        have HQG := Lib.hid hg'
        have HML := Lib.hid hm
        by_cases h1 : q.1.last = 1
        · have HV2 : Hid (t0 = (acc ++ q.2, (i : Int) + 1, 0)) := by show _ = _; rw [hV, Pl.readF_over hq h1]
          unfold PlPutR at HP
          rw [h1, hm] at HP
          have HPC := Lib.hid HP
          have hii : (i : Int) + 1 ≤ 9223372036854775807 := by omega
          clear HP hg' hG' hq hm hV h1 hgr
          go_wp2_with (first | (at_builtin; refine wpList_app rfl _ _ 29 rfl w.heap.size 26 p0 .u64 8 Tryz.underlying29 pi pz0 pz1 pz2 v n (pixs acc) rfl HO2.out a m c q.2 rfl HS2.out (by unfold maxLen; omega) (by omega) HB2.out.size ?_; intro v3 w3 hown hgrow hat; have HO3 := Lib.hid hown; have HB3 := Lib.hid (HB2.out.grown hgrow HB2.out.size (fun j ej => (HO2.out.lt j ej).1)); clear hown hgrow hat) | (go_at_call 124; refine HPC.out.mono ?_; rintro e w2 ⟨a, c, sv', rv', rfl, hX2, hS2, _, hF2, hN1, hN2⟩; obtain ⟨z1, z2, z3⟩ := HPZ.out q w2 sv' rv' hX2 hF2 hN1 hN2; have HO2 := Lib.hid z1; have HB2 := Lib.hid z3; have HS2 := Lib.hid hS2; clear hX2 hS2 hF2 hN1 hN2 z1 z2 z3))
          go_returns
          exact rdrc_row HV2.out rfl (by have h := HO3.out; unfold pixs; rw [List.map_append]; exact h) (by rw [List.length_append, HNL.out, HML.out]) HB3.out
        by_cases h2 : q.1.last = 2
        · have HV2 : Hid (t0 = ([], 0, q.1.e)) := by show _ = _; rw [hV, Pl.readF_wrong hq h2]
          unfold PlPutR at HP
          rw [h2, hm] at HP
          have HPC := Lib.hid HP
          clear HP hg' hG' hq hm hV h1 h2 hgr
          go_wp2_with (first | (at_builtin; refine wpList_app rfl _ _ 29 rfl w.heap.size 26 p0 .u64 8 Tryz.underlying29 pi pz0 pz1 pz2 v n (pixs acc) rfl HO2.out a m c q.2 rfl HS2.out (by unfold maxLen; omega) (by omega) HB2.out.size ?_; intro v3 w3 hown hgrow hat; have HB3 := Lib.hid (HB2.out.grown hgrow HB2.out.size (fun j ej => (HO2.out.lt j ej).1)); have HX3 := Lib.hid (HX2.out.kept HA2.out hgrow); clear hown hgrow hat) | (go_at_call 124; refine HPC.out.mono ?_; rintro e w2 ⟨a, c, sv', rv', rfl, hX2, hS2, _, hF2, hN1, hN2⟩; obtain ⟨z1, z2, z3⟩ := HPZ.out q w2 sv' rv' hX2 hF2 hN1 hN2; have HO2 := Lib.hid z1; have HA2 := Lib.hid z2; have HB2 := Lib.hid z3; have HS2 := Lib.hid hS2; have HX2 := Lib.hid hX2; clear hX2 hS2 hF2 hN1 hN2 z1 z2 z3) | (go_at_call 147; refine (plError_x HX3.out).mono ?_; rintro e w9 ⟨rfl, rfl⟩))
          go_returns
          exact rdrc_nil HV2.out HB3.out
        · have h3 : q.1.last = 0 := by omega
          have HV2 : Hid (t0 = Pl.readF q.1 (i + 1) (acc ++ q.2) ((bytesOf s).drop (i + 1))) := by show _ = _; rw [hV, Pl.readF_more hq h3]
          unfold PlPutR at HP
          rw [h3, hm] at HP
          have HPC := Lib.hid HP
          have H3 := Lib.hid h3
          clear HP hg' hG' hq hm hV h1 h2 h3 hgr
          go_wp2_with (first | (at_builtin; refine wpList_app rfl _ _ 29 rfl w.heap.size 26 p0 .u64 8 Tryz.underlying29 pi pz0 pz1 pz2 v n (pixs acc) rfl HO2.out a m c q.2 rfl HS2.out (by unfold maxLen; omega) (by omega) HB2.out.size ?_; intro v3 w3 hown hgrow hat; have HO3 := Lib.hid hown; have HB3 := Lib.hid (HB2.out.grown hgrow HB2.out.size (fun j ej => (HO2.out.lt j ej).1)); have HX3 := Lib.hid (HX2.out.kept HA2.out hgrow); have HA3 := Lib.hid (ap_app HX2.out HA2.out hat); clear hown hgrow hat) | (go_at_call 124; refine HPC.out.mono ?_; rintro e w2 ⟨a, c, sv', rv', rfl, hX2, hS2, _, hF2, hN1, hN2⟩; obtain ⟨z1, z2, z3⟩ := HPZ.out q w2 sv' rv' hX2 hF2 hN1 hN2; have HO2 := Lib.hid z1; have HA2 := Lib.hid z2; have HB2 := Lib.hid z3; have HS2 := Lib.hid hS2; have HX2 := Lib.hid hX2; clear hX2 hS2 hF2 hN1 hN2 z1 z2 z3))
          go_roundw
          case rel => exact ⟨i + 1, sv', rv', q.1, acc ++ q.2, v3, by omega, by go_num, rfl, HX3.out, H3.out, by rw [List.length_append, HNL.out, HML.out]; have h := HO3.out; unfold pixs; rw [List.map_append]; exact h, HA3.out, by rw [List.length_append, HNL.out]; have := HQG.out; have := HGR.out; omega, HB3.out, HV2.out⟩
          case measure => simp [intOf]; omega
      · have hgl := Pl.fin_grow st
        have hls := Pl.fin_last HG.out
        have HP := plEnd_any wr b sv rv HX.out
        obtain ⟨q, hq⟩ : ∃ q, Pl.fin st = q := ⟨_, rfl⟩
        rw [List.drop_eq_nil_of_le (by rw [bytesOf_length]; omega), Pl.readF_nil hq] at hV
        rw [hq] at HP hgl hls
        obtain ⟨m, hm⟩ : ∃ m, q.2.length = m := ⟨_, rfl⟩
        have hml : m ≤ 100001 := by omega
        have HML := Lib.hid hm
        have his : i = s.size := by omega
        by_cases h2 : q.1.last = 2
        · have HV2 : Hid (t0 = ([], 0, q.1.e)) := by show _ = _; rw [hV, if_pos h2]
          unfold PlPutR at HP
          rw [h2, hm] at HP
          have HPC := Lib.hid HP
          clear HP hgl hls hq hm hV h2 hgr his
          go_wp2_with (first | (go_at_call 75; refine HPC.out.mono ?_; rintro e w2 ⟨a, c, sv', rv', rfl, hX2, hS2, _, hF2, hN1, hN2⟩; obtain ⟨z1, z2, z3⟩ := HPZ.out q w2 sv' rv' hX2 hF2 hN1 hN2; have HB2 := Lib.hid z3; have HX2 := Lib.hid hX2; clear hX2 hS2 hF2 hN1 hN2 z1 z2 z3) | (go_at_call 147; refine (plError_x HX2.out).mono ?_; rintro e w9 ⟨rfl, rfl⟩))
          go_returns
          exact rdrc_nil HV2.out HB2.out
        · have h3 : q.1.last = 1 := by omega
          have HV2 : Hid (t0 = (acc ++ q.2, (s.size : Int), 0)) := by show _ = _; rw [hV, if_neg h2, his]
          unfold PlPutR at HP
          rw [h3, hm] at HP
          have HPC := Lib.hid HP
          clear HP hgl hls hq hm hV h2 h3 hgr his
          go_wp2_with (first | (at_builtin; refine wpList_app rfl _ _ 29 rfl w.heap.size 26 p0 .u64 8 Tryz.underlying29 pi pz0 pz1 pz2 v n (pixs acc) rfl HO2.out a m c q.2 rfl HS2.out (by unfold maxLen; omega) (by omega) HB2.out.size ?_; intro v3 w3 hown hgrow hat; have HO3 := Lib.hid hown; have HB3 := Lib.hid (HB2.out.grown hgrow HB2.out.size (fun j ej => (HO2.out.lt j ej).1)); clear hown hgrow hat) | (go_at_call 75; refine HPC.out.mono ?_; rintro e w2 ⟨a, c, sv', rv', rfl, hX2, hS2, _, hF2, hN1, hN2⟩; obtain ⟨z1, z2, z3⟩ := HPZ.out q w2 sv' rv' hX2 hF2 hN1 hN2; have HO2 := Lib.hid z1; have HB2 := Lib.hid z3; have HS2 := Lib.hid hS2; clear hX2 hS2 hF2 hN1 hN2 z1 z2 z3))
          go_returns
          exact rdrc_row HV2.out rfl (by have h := HO3.out; unfold pixs; rw [List.map_append]; exact h) (by rw [List.length_append, HNL.out, HML.out]) HB3.out
  · have HN := Lib.hid (plNew_no h hf hm)
    have HV : Hid (Pl.readV h (bytesOf s) = ([], 0, 1)) := Lib.hid (if_neg hm)
    clear hf hm
    unfold agH at HN ⊢
    go_enter Tryz.func103, Tryz.ntmps103
    go_wp2_with (go_at_call 146; refine (HN.out _).mono ?_; rintro e w1 ⟨rfl, hb1⟩; have HB1 := Lib.hid (((Below.refl _ w).alloc (Nat.le_refl _) _).trans (hb1.mono (by simp))))
    go_returns
    exact rdrc_nil HV.out HB1.out
end Go.Proofs.YtmnhiagppicegaaGreat

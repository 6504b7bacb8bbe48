/- The iterator that tells each state's fall, level by level. Condition: a tree of at most 1000 nodes; an automaton whose falls are right for what was told. -/
import Derived.Test.YtehmbnloplamaaaAuB
import Derived.Test.YtehmbnloplamaaaTrLg
import Derived.Test.YtehmbnloplamaaaRnk
import Derived.Test.YtehmbnloplamaaaInH
namespace Go.Proofs.Ytehmbnloplamaaa
open Go.RowKit Go.Shelf
attribute [local go_sem] Oper.semAt_some
set_option linter.unusedVariables false
open Tr Au
namespace Au
/-- the states when these were told -/
def Gf (L V : LL) (pre : List Nat) (j : Nat) : Nd := (num L j, if j ∈ pre then fallV L j else -1, if j ∈ pre then linkV L V j else -1)
theorem par_nat {L : LL} (hI : Inv L) {j : Nat} (h1 : 1 ≤ j) (hj : j < L.length) : ∃ u : Nat, parV L j = (u : Int) ∧ u < L.length ∧ dep L u + 1 = dep L j := by
  obtain ⟨a, b, c⟩ := hI.up j h1 hj
  refine ⟨idx L (L.getD j []).dropLast, by rw [par_at h1 hj, findV_mem b], idx_lt_iff.2 b, ?_⟩
  unfold dep
  rw [idx_at b, List.length_dropLast]
  have := List.length_pos_iff.2 a
  omega
theorem gf_fall {L V : LL} (hI : Inv L) {pre rest : List Nat} {j i : Nat} (h : order L = pre ++ j :: rest) (hi : i < L.length) (hd : dep L i < dep L j) : (Gf L V pre i).2.1 = fallV L i ∧ (Gf L V pre i).2.2 = linkV L V i := by
  unfold Gf
  by_cases h0 : i = 0
  · subst h0
    have hn : 0 ∉ pre := fun hm => by
      have := (mem_order hI).1 (by rw [h]; exact List.mem_append_left _ hm : (0 : Nat) ∈ order L)
      omega
    simp only [if_neg hn]
    exact ⟨(fall_zero L).symm, (link_zero hI V).symm⟩
  · have := order_ahead hI h (by omega) hi hd
    simp only [if_pos this]
    exact ⟨trivial, trivial⟩
end Au
section
variable {w : World} {B ab sb : Nat} {rv : Nat → Value} {L V : LL} {pre rest : List Nat} {j : Nat}
theorem gf_kd (hI : Inv L) : Kd L L.length (Gf L V pre) (data L V) := ⟨rfl, fun k _ => rfl, fun k _ => data_kids L V k⟩
theorem falls_fall (h : AuX w B ab sb L.length (Gf L V pre) rv (data L V)) (hI : Inv L) (ho : order L = pre ++ j :: rest) : Calls Try.prog 13 #[.pointer (some ⟨ab, 0, none⟩), .int .i64 (parV L j)] w fun e w' => e = .returned (.int .i64 (fallV L (parV L j))) ∧ Below w.heap.size w w' := by
  have hj := (mem_order hI).1 (by rw [ho]; simp : j ∈ order L)
  obtain ⟨u, hu, hul, hud⟩ := par_nat hI hj.1 hj.2
  rw [hu]
  have e : fallN L.length (Gf L V pre) u = fallV L u := by
    unfold fallN
    rw [if_neg (by omega), Int.toNat_natCast]
    exact (gf_fall hI ho hul (by omega)).1
  rw [← e]
  exact fall_au h u
theorem falls_behind (h : AuX w B ab sb L.length (Gf L V pre) rv (data L V)) (hI : Inv L) (ho : order L = pre ++ j :: rest) : Calls Try.prog 47 #[.pointer (some ⟨ab, 0, none⟩), .int .i64 (fallV L (parV L j)), .int .u64 (num L j)] w fun e w' => e = .returned (.int .i64 (fallV L j)) ∧ Below w.heap.size w w' := by
  have hj := (mem_order hI).1 (by rw [ho]; simp : j ∈ order L)
  obtain ⟨u, hu, hul, hud⟩ := par_nat hI hj.1 hj.2
  rw [hu]
  by_cases h0 : u = 0
  · subst h0
    rw [Int.natCast_zero, fall_zero, fall_first hI hj.1 hj.2 (by rw [hu]; rfl)]
    exact behind_none ab _
  · rw [fall_at (by omega) hul, fall_child hI hj.1 hj.2 hu (by omega) hul]
    refine behind_au h hI (gf_kd hI) _ (deep_lt hI _) (fun i hi hd => (gf_fall hI ho hi ?_).1) _
    have := fall_less hI (k := u) (by omega) hul
    unfold dep at *
    omega
end
def MadeF (ab tb : Nat) (w : World) (e : Ending) (w' : World) : Prop :=
  ∃ x y, e = .returned (.func (.func 65) #[] #[.pointer (some ⟨y, 0, none⟩), .pointer (some ⟨x, 0, none⟩)]) ∧ x ≠ y ∧ w.heap.size ≤ x ∧ w.heap.size ≤ y ∧ w'.cell? ⟨x, 0, none⟩ = some (.pointer (some ⟨ab, 0, none⟩)) ∧ w'.cell? ⟨y, 0, none⟩ = some (.pointer (some ⟨tb, 0, none⟩)) ∧ Below w.heap.size w w'
theorem falls_made (ab tb : Nat) (w : World) : Calls Try.prog 53 #[.pointer (some ⟨ab, 0, none⟩), .pointer (some ⟨tb, 0, none⟩)] w (MadeF ab tb w) := by
  go_enter Try.func53, Try.ntmps53
  go_wp2
  go_ret
  exact ⟨_, _, rfl, by omega, by omega, by omega, by simp [go_sem], by simp [go_sem], by go_grown⟩
/-- the blocks that the iterator stands on; those that it may turn itself -/
def Zf (x y tb nb n : Nat) (rv : Nat → Value) (w : World) (k : Nat) : Prop := k = x ∨ k = y ∨ Fp tb nb n rv k ∨ w.heap.size + 2 ≤ k
def Zn (w : World) (k : Nat) : Prop := w.heap.size + 2 ≤ k
set_option maxRecDepth 100000 in
set_option maxHeartbeats 4000000 in
theorem falls_gives {W0 : World} {Bt tb nb nc B ab sb x y : Nat} {rvt rv : Nat → Value} {L V : LL} (h : TrP W0 Bt tb nb nc rvt L V) (hI : Inv L) (hlen : L.length ≤ 1000) (cx : W0.cell? ⟨x, 0, none⟩ = some (.pointer (some ⟨ab, 0, none⟩))) (cy : W0.cell? ⟨y, 0, none⟩ = some (.pointer (some ⟨tb, 0, none⟩))) (hab : ab < W0.heap.size) :
    GivesK Fence.wide 2 Try.prog 65 #[.pointer (some ⟨y, 0, none⟩), .pointer (some ⟨x, 0, none⟩)] (fun j : Nat => #[.int .i64 (j : Int), .int .i64 (fallV L j)]) (Zf x y tb nb L.length rvt W0) (Zn W0) (order L) W0 (fun pre A => AuX A B ab sb L.length (Gf L V pre) rv (data L V)) := by
  intro l J Jx W hWs hW hJK hJxK hJ hJx hY h00
  have hlx : x < W0.heap.size := block_lt_of_cell cx
  have hly : y < W0.heap.size := block_lt_of_cell cy
  have hT : TrP W Bt tb nb nc rvt L V := TrX.of_blocks h fun g hg => hW.block g (TrX.lt h hg).2 (.inr (.inr (.inl hg)))
  have hFl : ∀ g, Fp tb nb L.length rvt g → g < W0.heap.size := fun g hg => (TrX.lt h hg).2
  have cx1 := hW.cell (.inl rfl) cx
  have cy1 := hW.cell (.inr (.inl rfl)) cy
  have hb := box1T W (.cells #[.func (.yield l) #[] #[]] 50)
  have HS := Lib.hid (Boxed.new W 50 (.func (.yield l) #[] #[]))
  have h01 : J [] (W.alloc (.cells #[.func (.yield l) #[] #[]] 50)) := hJ _ _ _ h00 (.alloc _ _ _)
  replace cx1 := cell_later hb cx1
  replace cy1 := cell_later hb cy1
  have hT1 := hT.later hb
  have hsz1 : (W.alloc (.cells #[.func (.yield l) #[] #[]] 50)).heap.size = W.heap.size + 1 := by simp
  obtain ⟨W1, hW1⟩ : ∃ W1, W.alloc (.cells #[.func (.yield l) #[] #[]] 50) = W1 := ⟨_, rfl⟩
  rw [hW1] at HS h01 cx1 cy1 hT1 hsz1
  obtain ⟨yb, hyb⟩ : ∃ yb, W.heap.size = yb := ⟨_, rfl⟩
  rw [hyb] at HS hsz1 hWs
  have HLV := Lib.hid (levels_tr hT1 hI hlen)
  have HJ := Lib.hid hJ
  have HJX := Lib.hid hJx
  have HJK := Lib.hid hJK
  have HJXK := Lib.hid hJxK
  have HY := Lib.hid hY
  have H01 := Lib.hid h01
  have HI := Lib.hid hI
  have HFL := Lib.hid hFl
  have HT1 := Lib.hid hT1
  clear h cx cy hT hb h00 hW hJ hJx hJK hJxK hY h01 hT1 hFl
  refine callsIn_of_wp_marks Try.func65 rfl trivial ?_ rfl
  simp only [Try.ntmps65, List.size_toArray, List.length_cons, List.length_nil, Nat.reduceAdd, Nat.reduceSub, Array.replicate_succ, Array.replicate_zero, List.push_toArray, List.append_toArray, List.nil_append, List.cons_append]
  gi_wp2_with (refine ⟨trivial, ?_⟩; gi_at_call 39; refine (callsIn_wide.2 HLV.out).mono ?_; rintro e W2 ⟨o, x2, a, c, rfl, ho, hx2, co, cx2, hown, hb2, hla⟩; have HLA := Lib.hid hla; have HB2 := Lib.hid hb2; have HCO := Lib.hid co; have HCX2 := Lib.hid cx2; have HOW := Lib.hid hown; have HCX := Lib.hid (cell_later hb2 cx1); have HCY := Lib.hid (cell_later hb2 cy1); have HT2 := Lib.hid (HT1.out.later hb2); have HYB := Lib.hid (cell_later hb2 HS.out.cell); clear co cx2 hown hb2 cx1 cy1 hla)
  have hs2 := HB2.out.size
  have hlo : o < W2.heap.size := block_lt_of_cell HCO.out
  have hlx2 : x2 < W2.heap.size := block_lt_of_cell HCX2.out
  have hsW : ∀ {A B : World}, Sep (fun k => Zy W2 k ∨ k = W2.heap.size ∨ k = W2.heap.size + 1) A B → Sep (Zn W0) A B := fun h => h.mono fun k e => by
    rcases e with e | e | e
    · exact e.elim
    · show W0.heap.size + 2 ≤ k; omega
    · show W0.heap.size + 2 ≤ k; omega
  have hlow : ∀ k, k < W2.heap.size → ¬ (Zy W2 k ∨ k = W2.heap.size ∨ k = W2.heap.size + 1) := fun k hk e => by
    rcases e with e | e | e
    · exact e
    · omega
    · omega
  have HSW := Lib.hid (fun A B (h : Sep (fun k => Zy W2 k ∨ k = W2.heap.size ∨ k = W2.heap.size + 1) A B) => hsW h)
  have HLOW := Lib.hid hlow
  have hZl : ∀ k, Zl o x2 a tb nb L.length rvt k → k < W2.heap.size := fun k e => by
    rcases e with e | e | e | e
    · omega
    · omega
    · exact (HLA.out k e).2
    · have := HFL.out k e; omega
  have HZL := Lib.hid hZl
  clear hsW hlow hZl
  have hyb2 : yb < W2.heap.size := by omega
  refine range_own1N (I := fun pre A => J pre A ∧ A.cell? ⟨yb, 0, none⟩ = some (.func (.yield l) #[] #[]) ∧ A.cell? ⟨x, 0, none⟩ = some (.pointer (some ⟨ab, 0, none⟩))) (Ix := fun c pre A => c = .ret ∧ Jx pre A) rfl (by omega) (gf := 55) (lb := #[.pointer (some ⟨o, 0, none⟩), .pointer (some ⟨x2, 0, none⟩)]) rfl trivial (enters_of Try.func55 (by kernel_rfl) rfl)
    (levels_gives HT2.out HCO.out HCX2.out HOW.out HI.out hlen 1 (by omega)) (fun k e => e.elim) (fun e => by have := HZL.out _ e; omega) (fun e => by have := HZL.out _ e; omega) (fun _ => rfl) ?hI ?hIx ?h0 ?_ ?assign ?body ?done ?stop
  case hI =>
    rintro pre A B' ⟨h1, h2, h3⟩ hs
    exact ⟨HJ.out _ _ _ h1 (HSW.out _ _ hs), hs.cell (HLOW.out _ hyb2) h2, hs.cell (HLOW.out _ (by omega)) h3⟩
  case hIx =>
    rintro c pre A B' ⟨h1, h2⟩ hs
    exact ⟨h1, HJX.out _ _ _ h2 (HSW.out _ _ hs)⟩
  case h0 => exact ⟨HJ.out _ _ _ H01.out (sep_belowT HB2.out), HYB.out, HCX.out⟩
  case assign =>
    intro l' j W' K hK
    gi_wp2
    exact hK
  case body =>
    rintro l' pre j rest W' hx hlt ⟨h1, h2, h3⟩
    have hA := HJK.out _ _ h1
    have hjm := (mem_order HI.out).1 (by rw [hx]; simp : j ∈ order L)
    have hjL : j < L.length := hjm.2
    have b0 := hA.boxes
    have c0 := (hA.cells hjL).1
    have hn9 := hA.len9
    have hjI : (j : Int) < (L.length : Int) := by omega
    have hj0 : (0 : Int) ≤ (j : Int) := Int.natCast_nonneg _
    have hS : W'.drew.cell? ⟨yb, 0, none⟩ = some (.func (.yield l) #[] #[]) ∧ W'.drew.cell? ⟨x, 0, none⟩ = some (.pointer (some ⟨ab, 0, none⟩)) ∧ W'.drew.cell? ⟨ab, 0, none⟩ = some (.slice (some ⟨sb, 0, none⟩) L.length L.length) ∧ W'.drew.cell? ⟨sb, j * 5, none⟩ = some (.int .u64 (num L j)) := ⟨h2, h3, b0, c0⟩
    have HA := Lib.hid hA
    have H1 := Lib.hid h1
    have HX := Lib.hid hx
    clear hA h1 h2 h3 b0 c0 hjm
    gi_wp2
    refine rd_begin (S := fun w' => w'.cell? ⟨yb, 0, none⟩ = some (.func (.yield l) #[] #[]) ∧ w'.cell? ⟨x, 0, none⟩ = some (.pointer (some ⟨ab, 0, none⟩)) ∧ w'.cell? ⟨ab, 0, none⟩ = some (.slice (some ⟨sb, 0, none⟩) L.length L.length) ∧ w'.cell? ⟨sb, j * 5, none⟩ = some (.int .u64 (num L j))) (by kernel_rfl) hS (fun _ => ?_)
    refine rd_take (i := 0) _ (.func (.yield l) #[] #[]) (by kernel_rfl) rfl (by kernel_rfl) (by kernel_rfl) (by kernel_rfl) (fun _ _ _ h => h) (Or.inl ⟨by rfl, fun w9 hSw => ?_⟩) hS ?_
    · obtain ⟨s1, s2, s3, s4⟩ := hSw
      go_simp
    (try simp only [Act.put, List.setIfInBounds_toArray])
    refine rd_take (i := 1) _ (.int .i64 (j : Int)) (by kernel_rfl) rfl (by kernel_rfl) (by kernel_rfl) (by kernel_rfl) (fun _ _ _ h => h) (Or.inl ⟨by rfl, fun w9 hSw => ?_⟩) hS ?_
    · obtain ⟨s1, s2, s3, s4⟩ := hSw
      go_simp
    (try simp only [Act.put])
    refine rd_take (i := 2) _ (.pointer (some ⟨ab, 0, none⟩)) (by kernel_rfl) rfl (by kernel_rfl) (by kernel_rfl) (by kernel_rfl) (fun _ _ _ h => h) (Or.inl ⟨by rfl, fun w9 hSw => ?_⟩) hS ?_
    · obtain ⟨s1, s2, s3, s4⟩ := hSw
      go_simp
    (try simp only [Act.put])
    refine rd_take (i := 3) _ (.pointer (some ⟨ab, 0, none⟩)) (by kernel_rfl) rfl (by kernel_rfl) (by kernel_rfl) (by kernel_rfl) (fun _ _ _ h => h) (Or.inl ⟨by rfl, fun w9 hSw => ?_⟩) hS ?_
    · obtain ⟨s1, s2, s3, s4⟩ := hSw
      go_simp
    (try simp only [Act.put])
    refine rd_take (i := 4) _ (.int .i64 (parV L j)) (by kernel_rfl) rfl (by kernel_rfl) (by kernel_rfl) (by kernel_rfl) (fun _ _ _ h => h) (Or.inl ⟨by rfl, fun w9 hSw => ?_⟩) hS ?_
    · obtain ⟨s1, s2, s3, s4⟩ := hSw
      go_simp
    (try simp only [Act.put])
    refine rd_take (i := 6) _ (.pointer (some ⟨ab, 0, none⟩)) (by kernel_rfl) rfl (by kernel_rfl) (by kernel_rfl) (by kernel_rfl) (fun _ _ _ h => h) (Or.inl ⟨by rfl, fun w9 hSw => ?_⟩) hS ?_
    · obtain ⟨s1, s2, s3, s4⟩ := hSw
      go_simp
    (try simp only [Act.put])
    refine rd_take (i := 7) _ (.pointer (some ⟨ab, 0, none⟩)) (by kernel_rfl) rfl (by kernel_rfl) (by kernel_rfl) (by kernel_rfl) (fun _ _ _ h => h) (Or.inl ⟨by rfl, fun w9 hSw => ?_⟩) hS ?_
    · obtain ⟨s1, s2, s3, s4⟩ := hSw
      go_simp
    (try simp only [Act.put])
    refine rd_take (i := 8) _ (.pointer (some ⟨ab, 0, none⟩)) (by kernel_rfl) rfl (by kernel_rfl) (by kernel_rfl) (by kernel_rfl) (fun _ _ _ h => h) (Or.inl ⟨by rfl, fun w9 hSw => ?_⟩) hS ?_
    · obtain ⟨s1, s2, s3, s4⟩ := hSw
      go_simp
    (try simp only [Act.put])
    refine rd_take (i := 9) _ (.slice (some ⟨sb, 0, none⟩) L.length L.length) (by kernel_rfl) rfl (by kernel_rfl) (by kernel_rfl) (by kernel_rfl) (fun _ _ _ h => h) (Or.inl ⟨by rfl, fun w9 hSw => ?_⟩) hS ?_
    · obtain ⟨s1, s2, s3, s4⟩ := hSw
      go_simp
    (try simp only [Act.put])
    refine rd_take (i := 10) _ (.int .i64 (j : Int)) (by kernel_rfl) rfl (by kernel_rfl) (by kernel_rfl) (by kernel_rfl) (fun _ _ _ h => h) (Or.inl ⟨by rfl, fun w9 hSw => ?_⟩) hS ?_
    · obtain ⟨s1, s2, s3, s4⟩ := hSw
      go_simp
    (try simp only [Act.put])
    refine rd_take (i := 11) _ (.pointer (some ⟨sb, j * 5, none⟩)) (by kernel_rfl) rfl (by kernel_rfl) (by kernel_rfl) (by kernel_rfl) (fun _ _ _ h => h) (Or.inl ⟨by rfl, fun w9 hSw => ?_⟩) hS ?_
    · obtain ⟨s1, s2, s3, s4⟩ := hSw
      go_simp
    (try simp only [Act.put])
    refine rd_take (i := 12) _ (.pointer (some ⟨sb, j * 5, none⟩)) (by kernel_rfl) rfl (by kernel_rfl) (by kernel_rfl) (by kernel_rfl) (fun _ _ _ h => h) (Or.inl ⟨by rfl, fun w9 hSw => ?_⟩) hS ?_
    · obtain ⟨s1, s2, s3, s4⟩ := hSw
      go_simp
    (try simp only [Act.put])
    refine rd_take (i := 13) _ (.int .u64 (num L j)) (by kernel_rfl) rfl (by kernel_rfl) (by kernel_rfl) (by kernel_rfl) (fun _ _ _ h => h) (Or.inl ⟨by rfl, fun w9 hSw => ?_⟩) hS ?_
    · obtain ⟨s1, s2, s3, s4⟩ := hSw
      go_simp
    (try simp only [Act.put])
    have HS := Lib.hid hS
    clear hS
    have HAd := Lib.hid (HA.out.later ((Below.refl W'.heap.size W').drew))
    have HC1 := Lib.hid (fun w3 (hb : Below W'.drew.heap.size W'.drew w3) => falls_behind (HAd.out.later hb) HI.out HX.out)
    have HC0 := Lib.hid (falls_fall HAd.out HI.out HX.out)
    refine rd_one (i := 5) _ (by kernel_rfl) rfl (fun K hK => ?_)
    go_simp
    refine ⟨trivial, rfl, ?_⟩
    refine (((callsIn_wide (n := _)).2 HC0.out).inRound l').mono ?_
    rintro e w3 ⟨rfl, hb3⟩
    have HB3 := Lib.hid hb3
    refine hK _ _ ⟨cell_later hb3 HS.out.1, cell_later hb3 HS.out.2.1, cell_later hb3 HS.out.2.2.1, cell_later hb3 HS.out.2.2.2⟩ (fun _ => ?_)
    clear hK K hb3
    (try simp only [Act.put, List.setIfInBounds_toArray, List.set_cons_zero, List.set_cons_succ])
    refine rd_one (i := 14) _ (by kernel_rfl) rfl (fun K hK => ?_)
    go_simp
    refine ⟨trivial, rfl, ?_⟩
    refine (((callsIn_wide (n := _)).2 (HC1.out _ HB3.out)).inRound l').mono ?_
    rintro e w4 ⟨rfl, hb4⟩
    have HB4 := Lib.hid (bel_step HB3.out hb4)
    have hb := HB4.out
    have hbW : Below W'.heap.size W' w4 := bel_und hb
    have HBW := Lib.hid hbW
    obtain ⟨fn, tmps, assign, body, hy, hR⟩ := HY.out pre j rest w4 HX.out (HJ.out _ _ _ H1.out (sep_belowT hbW))
    refine hK _ _ ⟨cell_later hb HS.out.1, cell_later hb HS.out.2.1, cell_later hb HS.out.2.2.1, cell_later hb HS.out.2.2.2⟩ (fun _ => ?_)
    have HY4 := Lib.hid (cell_later hb HS.out.1)
    have HX4 := Lib.hid (cell_later hb HS.out.2.1)
    clear hK K hb4 hb hbW
    (try simp only [Act.put, List.setIfInBounds_toArray, List.set_cons_zero, List.set_cons_succ])
    refine rd_one (i := 15) _ (by kernel_rfl) rfl (fun K hK => ?_)
    go_simp
    refine ⟨rfl, (RoundIn.inRoundW hR).mono ?_⟩
    rintro e W3 ⟨hh, hcase⟩
    have hH : Hold (fun k => Zl o x2 a tb nb L.length rvt k ∨ k = W2.heap.size ∨ k = W2.heap.size + 1) W' W3 := by
      have h1 : Hold (fun k => Zl o x2 a tb nb L.length rvt k ∨ k = W2.heap.size ∨ k = W2.heap.size + 1) W' w4 := ⟨HBW.out.size, fun k hk _ => HBW.out.block k hk⟩
      refine h1.trans (hh.mono fun k e => ?_)
      rcases e with (e | e | e | e) | e | e
      · exact .inr (.inr (.inr (by omega)))
      · exact .inr (.inr (.inr (by omega)))
      · exact .inr (.inr (.inr (by have := (HLA.out k e).1; omega)))
      · exact .inr (.inr (.inl e))
      · exact .inr (.inr (.inr (by omega)))
      · exact .inr (.inr (.inr (by omega)))
    have hA3 : AuX W3 B ab sb L.length (Gf L V (pre ++ [j])) rv (data L V) := by
      rcases hcase with ⟨_, h⟩ | ⟨_, h⟩
      · exact HJK.out _ _ h
      · exact HJXK.out _ _ h
    have hS3 : W3.cell? ⟨yb, 0, none⟩ = some (.func (.yield l) #[] #[]) ∧ W3.cell? ⟨x, 0, none⟩ = some (.pointer (some ⟨ab, 0, none⟩)) ∧ W3.cell? ⟨ab, 0, none⟩ = some (.slice (some ⟨sb, 0, none⟩) L.length L.length) ∧ W3.cell? ⟨sb, j * 5, none⟩ = some (.int .u64 (num L j)) :=
      ⟨hh.cell (.inr (.inr (.inr hWs))) HY4.out, hh.cell (.inl rfl) HX4.out, hA3.boxes, (hA3.cells hjL).1⟩
    have HH := Lib.hid hH
    have HS3 := Lib.hid hS3
    clear hR hy hh hH hA3 hS3
    rcases hcase with ⟨rfl, hJ3⟩ | ⟨rfl, hJx3⟩
    · have HJ3 := Lib.hid hJ3
      clear hJ3
      refine hK _ _ HS3.out (fun _ => ?_)
      clear hK K
      (try simp only [Act.put, List.setIfInBounds_toArray, List.set_cons_zero, List.set_cons_succ])
      refine rd_one (i := 16) _ (by kernel_rfl) rfl (fun K hK => ?_)
      go_simp
      refine hK _ _ HS3.out (fun _ => ?_)
      clear hK K
      refine rd_done (by kernel_rfl) ?_ _
      (try simp only [Act.put, List.setIfInBounds_toArray, List.set_cons_zero, List.set_cons_succ])
      gi_wp2
      exact ⟨HH.out, HJ3.out, HS3.out.1, HS3.out.2.1⟩
    · have HJ3 := Lib.hid hJx3
      clear hJx3
      refine hK _ _ HS3.out (fun _ => ?_)
      clear hK K
      (try simp only [Act.put, List.setIfInBounds_toArray, List.set_cons_zero, List.set_cons_succ])
      refine rd_one (i := 16) _ (by kernel_rfl) rfl (fun K hK => ?_)
      go_simp
      refine hK _ _ HS3.out (fun _ => ?_)
      clear hK K
      refine rd_done (by kernel_rfl) ?_ _
      (try simp only [Act.put, List.setIfInBounds_toArray, List.set_cons_zero, List.set_cons_succ])
      gi_wp2
      exact ⟨HH.out, rfl, HJ3.out⟩
  case done =>
    rintro W' ⟨h1, _, _⟩ hd
    have hlD : W2.heap.size < W'.heap.size := (Array.getElem?_eq_some_iff.1 hd).1
    gi_wp2
    refine ⟨by simp, .inl ⟨W2.heap.size, _, rfl, run_takeDeferred hd, _, results_none rfl _ _ _, ⟨_, rfl⟩, .inl ?_⟩⟩
    exact HJ.out _ _ _ h1 (Sep.putObj _ (show W0.heap.size + 2 ≤ W2.heap.size by omega) _)
  case stop =>
    rintro c pre W' hp ⟨rfl, h2⟩ hd
    gi_wp2
    refine ret_mark hd (results_none rfl _ _ _) ⟨⟨_, rfl⟩, .inr ⟨pre, hp, ?_⟩⟩
    exact HJX.out _ _ _ h2 (Sep.putObj _ (show W0.heap.size + 2 ≤ W2.heap.size by omega) _)
end Go.Proofs.Ytehmbnloplamaaa

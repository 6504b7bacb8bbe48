/- A reader of a number is told a byte, by the code and by the document, as one plain function; a text's first bytes. Condition: its greatest number fits. -/
import Derived.Test.YtkphfpckkmendaaTokB
import Derived.Test.YtkphfpckkmendaaTokC
namespace Go.Proofs.Ytkphfpckkmendaa
open Go.RowKit
set_option linter.unusedVariables false

def nxt (k b : Nat) : Value := if k = 0 then nxA b else if k = 1 then nxR b else if k = 2 then nxD b else nxB b
/-- a reader in the block b is where s says -/
def RdS (w : World) (b : Nat) (m : Int) (s : Tk.S) : Prop :=
  Tk.Good m s ∧ ∃ v f x, RdC w b m v s.bg (Tk.st s) f x ∧ (s.k ≤ 4 → v = s.n) ∧ (s.k ≤ 3 → x = nxt s.k b) ∧ (s.k = 5 → f = s.e)
theorem RdS.lt {w : World} {b : Nat} {m : Int} {s : Tk.S} (h : RdS w b m s) : b < w.heap.size := by obtain ⟨_, v, f, x, h1, _⟩ := h; exact h1.lt
theorem RdS.kept {w w' : World} {row : Option Nat} {b : Nat} {m : Int} {s : Tk.S} (h : RdS w b m s) (hg : w.grownBy w' row) (hne : some b ≠ row) : RdS w' b m s := by
  obtain ⟨hG, v, f, x, h1, h2⟩ := h; exact ⟨hG, v, f, x, h1.kept hg hne, h2⟩
theorem RdS.later {w w' : World} {b : Nat} {m : Int} {s : Tk.S} (h : RdS w b m s) (hb : Below w.heap.size w w') : RdS w' b m s := by
  obtain ⟨hG, v, f, x, h1, h2⟩ := h; exact ⟨hG, v, f, x, h1.later hb, h2⟩
theorem tokNew_s (m : Int) (m0 : 0 ≤ m) (w : World) :
    Calls Try.prog 37 #[.int .i64 m] w fun e w' => e = .returned (.pointer (some ⟨w.heap.size, 0, none⟩)) ∧ RdS w' w.heap.size m Tk.new ∧ Below w.heap.size w w' := by
  refine (tokNew_any m w).mono ?_
  rintro e w' ⟨rfl, h, hb⟩
  exact ⟨rfl, ⟨Tk.good_new m0, 0, 0, _, h, fun _ => rfl, fun _ => rfl, fun h => absurd h (by decide)⟩, hb⟩
def PutR (w : World) (b : Nat) (m : Int) (s : Tk.S) (e : Ending) (w' : World) : Prop :=
  e = .returned (.int .i64 (Tk.st s)) ∧ RdS w' b m s ∧ w.grownBy w' (some b)
theorem enA : ∀ args w, (callFunc 41 args).run Try.prog w = .ok (.enter 41 args) w := enters_of Try.func41 (by kernel_rfl) rfl
theorem enR : ∀ args w, (callFunc 43 args).run Try.prog w = .ok (.enter 43 args) w := enters_of Try.func43 (by kernel_rfl) rfl
theorem enD : ∀ args w, (callFunc 44 args).run Try.prog w = .ok (.enter 44 args) w := enters_of Try.func44 (by kernel_rfl) rfl
theorem enB : ∀ args w, (callFunc 47 args).run Try.prog w = .ok (.enter 47 args) w := enters_of Try.func47 (by kernel_rfl) rfl
/-- both what the code and what the document do with a byte, told together -/
theorem put_both {m : Int} {s : Tk.S} (hG : Tk.Good m s) (m1 : m ≤ 4611686018427387903) (c : Int) (c0 : 0 ≤ c) (c1 : c ≤ 255) :
    (∀ w b, RdS w b m s → Calls Try.prog 38 #[.pointer (some ⟨b, 0, none⟩), .int .u8 c] w (PutR w b m (Tk.put m s c))) ∧
    (∀ w, Calls Try.prog 24 #[agS s.k s.n m s.e, .int .u8 c] w (RpR w (Tk.put m s c).k (Tk.put m s c).n m (Tk.put m s c).e (Tk.st (Tk.put m s c)))) := by
  have hG' := Tk.good_put hG c
  generalize ht : Tk.put m s c = t at hG' ⊢
  obtain ⟨k, n, e, bg⟩ := s
  have H := hG
  obtain ⟨h1, h2, h3, h4, h5, h6, h7, h8⟩ := H
  simp only at h1 h2 h3 h4 h5 h6 h7 h8
  have L10 : Tk.line 10 = true := by decide
  have L13 : Tk.line 13 = true := by decide
  have fin : ∀ (w : World) (b : Nat) (v : Int) (f : Int) (x : Value), (t.k ≤ 4 → v = t.n) → (t.k ≤ 3 → x = nxt t.k b) → (t.k = 5 → f = t.e) → ∀ e' w', (e' = Ending.returned (.int .i64 (Tk.st t)) ∧ RdC w' b m v t.bg (Tk.st t) f x ∧ w.grownBy w' (some b)) → PutR w b m t e' w' := fun w b v f x a1 a2 a3 e' w' hh => ⟨hh.1, ⟨hG', v, f, x, hh.2.1, a1, a2, a3⟩, hh.2.2⟩
  have hk : k = 0 ∨ k = 1 ∨ k = 2 ∨ k = 3 ∨ k = 4 ∨ k = 5 := by omega
  have nl : Tk.line c = false → (c == 10) = false ∧ (c == 13) = false := fun h => by unfold Tk.line at h; simp at h; simp; exact h
  have yl : Tk.line c = true → c = 10 ∨ c = 13 := fun h => by unfold Tk.line at h; simpa using h
  rcases hk with rfl | rfl | rfl | rfl | rfl | rfl
  · -- ahead
    obtain ⟨rfl, rfl⟩ := h7 (by omega)
    have h9 := h4 (by omega); subst h9
    have open' : ∀ w b, RdS w b m ⟨0, 0, 9, false⟩ → ∃ f, RdC w b m 0 false 0 f (nxA b) := fun w b hr => by
      obtain ⟨_, v, f, x, r1, r2, r3, _⟩ := hr
      have := r2 (by simp); simp only at this; subst this
      have := r3 (by simp); subst this
      exact ⟨f, r1⟩
    by_cases hc : c = 35
    · subst hc
      have ht' : t = ⟨1, 0, 9, false⟩ := by rw [← ht]; rfl
      subst ht'
      refine ⟨fun w b hr => ?_, fun w => rp_a35 0 m 9 w⟩
      obtain ⟨f, hr⟩ := open' w b hr
      exact (put_next w b _ m 0 false f 35 m 0 false f (nxR b) 0 enA hr (ahead_rem w b m 0 false f 35 c0 c1 rfl hr)).mono (fin w b 0 f (nxR b) (fun _ => rfl) (fun _ => rfl) (fun h => absurd h (by simp)))
    by_cases hb : Tk.blank c = true
    · have ht' : t = ⟨0, 0, 9, false⟩ := by rw [← ht]; simp [Tk.put, hc, hb]
      subst ht'
      refine ⟨fun w b hr => ?_, fun w => ?_⟩
      · obtain ⟨f, hr⟩ := open' w b hr
        exact (put_next w b _ m 0 false f c m 0 false f (nxA b) 0 enA hr (ahead_blank w b m 0 false f c c0 c1 hb hr)).mono (fin w b 0 f (nxA b) (fun _ => rfl) (fun _ => rfl) (fun h => absurd h (by simp)))
      · by_cases hl : Tk.line c = true
        · rcases yl hl with rfl | rfl
          · exact rp_a10 0 m 9 w
          · exact rp_a13 0 m 9 w
        · obtain ⟨a1, a2⟩ := nl (by simpa using hl)
          exact rp_a_blank 0 m 9 c c0 c1 a1 a2 (by simpa using hc) hb w
    have hb' : Tk.blank c = false := by simpa using hb
    have hnl : Tk.line c = false := by
      cases e : Tk.line c with
      | false => rfl
      | true => rcases yl e with rfl | rfl <;> exact absurd hb' (by decide)
    obtain ⟨a1, a2⟩ := nl hnl
    obtain ⟨p, hp⟩ : ∃ p, Nu.stepV 0 c m = p := ⟨_, rfl⟩
    obtain ⟨v, er⟩ := p
    by_cases he : er = 0
    · subst he
      have ht' : t = ⟨2, v, 9, true⟩ := by rw [← ht]; simp [Tk.put, hc, hb', hp]
      subst ht'
      refine ⟨fun w b hr => ?_, fun w => rp_a_yes 0 m 9 c c0 c1 a1 a2 (by simpa using hc) hb' h2 h3 m1 v hp w⟩
      obtain ⟨f, hr⟩ := open' w b hr
      exact (put_next w b _ m 0 false f c m v true f (nxD b) 0 enA hr (ahead_yes w b m 0 false f c c0 c1 hb' hc h2 h3 m1 v hp hr)).mono (fin w b v f (nxD b) (fun _ => rfl) (fun _ => rfl) (fun h => absurd h (by simp)))
    · have ht' : t = ⟨5, 0, er, false⟩ := by rw [← ht]; simp [Tk.put, hc, hb', hp, he]
      subst ht'
      refine ⟨fun w b hr => ?_, fun w => rp_a_no 0 m 9 c c0 c1 a1 a2 (by simpa using hc) hb' h2 h3 m1 v er hp he w⟩
      obtain ⟨f, hr⟩ := open' w b hr
      exact (put_next w b _ m 0 false f c m 0 false er (nxD b) 2 enA hr (ahead_no w b m 0 false f c c0 c1 hb' hc h2 h3 m1 v er hp he hr)).mono (fin w b 0 er (nxD b) (fun _ => rfl) (fun h => absurd h (by simp)) (fun _ => rfl))
  · -- a remark ahead
    obtain ⟨rfl, rfl⟩ := h7 (by omega)
    have h9 := h4 (by omega); subst h9
    have open' : ∀ w b, RdS w b m ⟨1, 0, 9, false⟩ → ∃ f, RdC w b m 0 false 0 f (nxR b) := fun w b hr => by
      obtain ⟨_, v, f, x, r1, r2, r3, _⟩ := hr
      have := r2 (by simp); simp only at this; subst this
      have := r3 (by simp); subst this
      exact ⟨f, r1⟩
    by_cases hl : Tk.line c = true
    · have ht' : t = ⟨0, 0, 9, false⟩ := by rw [← ht]; simp [Tk.put, hl]
      subst ht'
      refine ⟨fun w b hr => ?_, fun w => ?_⟩
      · obtain ⟨f, hr⟩ := open' w b hr
        exact (put_next w b _ m 0 false f c m 0 false f (nxA b) 0 enR hr (remA_line w b m 0 false f c c0 c1 hl hr)).mono (fin w b 0 f (nxA b) (fun _ => rfl) (fun _ => rfl) (fun h => absurd h (by simp)))
      · rcases yl hl with rfl | rfl
        · exact rp_remA10 0 m 9 w
        · exact rp_remA13 0 m 9 w
    · have hl' : Tk.line c = false := by simpa using hl
      have ht' : t = ⟨1, 0, 9, false⟩ := by rw [← ht]; simp [Tk.put, hl']
      subst ht'
      obtain ⟨a1, a2⟩ := nl hl'
      refine ⟨fun w b hr => ?_, fun w => rp_remA_not 0 m 9 c c0 c1 a1 a2 w⟩
      obtain ⟨f, hr⟩ := open' w b hr
      exact (put_next w b _ m 0 false f c m 0 false f (nxR b) 0 enR hr (remA_not w b m 0 false f c c0 c1 hl' hr)).mono (fin w b 0 f (nxR b) (fun _ => rfl) (fun _ => rfl) (fun h => absurd h (by simp)))
  · -- digits
    have hbg := h8 (by omega) (by omega); subst hbg
    have h9 := h4 (by omega); subst h9
    have open' : ∀ w b, RdS w b m ⟨2, n, 9, true⟩ → ∃ f, RdC w b m n true 0 f (nxD b) := fun w b hr => by
      obtain ⟨_, v, f, x, r1, r2, r3, _⟩ := hr
      have := r2 (by simp); simp only at this; subst this
      have := r3 (by simp); subst this
      exact ⟨f, r1⟩
    by_cases hc : c = 35
    · subst hc
      have ht' : t = ⟨3, n, 9, true⟩ := by rw [← ht]; rfl
      subst ht'
      refine ⟨fun w b hr => ?_, fun w => rp_d35 n m 9 w⟩
      obtain ⟨f, hr⟩ := open' w b hr
      exact (put_next w b _ m n true f 35 m n true f (nxB b) 0 enD hr (digit_rem w b m n true f 35 c0 c1 rfl hr)).mono (fin w b n f (nxB b) (fun _ => rfl) (fun _ => rfl) (fun h => absurd h (by simp)))
    by_cases hb : Tk.blank c = true
    · have ht' : t = ⟨4, n, 0, true⟩ := by rw [← ht]; simp [Tk.put, hc, hb]
      subst ht'
      refine ⟨fun w b hr => ?_, fun w => ?_⟩
      · obtain ⟨f, hr⟩ := open' w b hr
        exact (put_next w b _ m n true f c m n true f (nxD b) 1 enD hr (digit_blank w b m n true f c c0 c1 hb hr)).mono (fin w b n f (nxD b) (fun _ => rfl) (fun h => absurd h (by simp)) (fun h => absurd h (by simp)))
      · by_cases hl : Tk.line c = true
        · rcases yl hl with rfl | rfl
          · exact rp_d10 n m 9 w
          · exact rp_d13 n m 9 w
        · obtain ⟨a1, a2⟩ := nl (by simpa using hl)
          exact rp_d_blank n m 9 c c0 c1 a1 a2 (by simpa using hc) hb w
    have hb' : Tk.blank c = false := by simpa using hb
    have hnl : Tk.line c = false := by
      cases e : Tk.line c with
      | false => rfl
      | true => rcases yl e with rfl | rfl <;> exact absurd hb' (by decide)
    obtain ⟨a1, a2⟩ := nl hnl
    obtain ⟨p, hp⟩ : ∃ p, Nu.stepV n c m = p := ⟨_, rfl⟩
    obtain ⟨v, er⟩ := p
    by_cases he : er = 0
    · subst he
      have ht' : t = ⟨2, v, 9, true⟩ := by rw [← ht]; simp [Tk.put, hc, hb', hp]
      subst ht'
      refine ⟨fun w b hr => ?_, fun w => rp_d_yes n m 9 c c0 c1 a1 a2 (by simpa using hc) hb' h2 h3 m1 v hp w⟩
      obtain ⟨f, hr⟩ := open' w b hr
      exact (put_next w b _ m n true f c m v true f (nxD b) 0 enD hr (digit_yes w b m n true f c c0 c1 hb' hc h2 h3 m1 v hp hr)).mono (fin w b v f (nxD b) (fun _ => rfl) (fun _ => rfl) (fun h => absurd h (by simp)))
    · have ht' : t = ⟨5, 0, er, true⟩ := by rw [← ht]; simp [Tk.put, hc, hb', hp, he]
      subst ht'
      refine ⟨fun w b hr => ?_, fun w => rp_d_no n m 9 c c0 c1 a1 a2 (by simpa using hc) hb' h2 h3 m1 v er hp he w⟩
      obtain ⟨f, hr⟩ := open' w b hr
      exact (put_next w b _ m n true f c m n true er (nxD b) 2 enD hr (digit_no w b m n true f c c0 c1 hb' hc h2 h3 m1 v er hp he hr)).mono (fin w b n er (nxD b) (fun h => absurd h (by simp)) (fun h => absurd h (by simp)) (fun _ => rfl))
  · -- a remark behind
    have hbg := h8 (by omega) (by omega); subst hbg
    have h9 := h4 (by omega); subst h9
    have open' : ∀ w b, RdS w b m ⟨3, n, 9, true⟩ → ∃ f, RdC w b m n true 0 f (nxB b) := fun w b hr => by
      obtain ⟨_, v, f, x, r1, r2, r3, _⟩ := hr
      have := r2 (by simp); simp only at this; subst this
      have := r3 (by simp); subst this
      exact ⟨f, r1⟩
    by_cases hl : Tk.line c = true
    · have ht' : t = ⟨4, n, 0, true⟩ := by rw [← ht]; simp [Tk.put, hl]
      subst ht'
      refine ⟨fun w b hr => ?_, fun w => ?_⟩
      · obtain ⟨f, hr⟩ := open' w b hr
        exact (put_next w b _ m n true f c m n true f (nxB b) 1 enB hr (remB_line w b m n true f c c0 c1 hl hr)).mono (fin w b n f (nxB b) (fun _ => rfl) (fun h => absurd h (by simp)) (fun h => absurd h (by simp)))
      · rcases yl hl with rfl | rfl
        · exact rp_remB10 n m 9 w
        · exact rp_remB13 n m 9 w
    · have hl' : Tk.line c = false := by simpa using hl
      have ht' : t = ⟨3, n, 9, true⟩ := by rw [← ht]; simp [Tk.put, hl']
      subst ht'
      obtain ⟨a1, a2⟩ := nl hl'
      refine ⟨fun w b hr => ?_, fun w => rp_remB_not n m 9 c c0 c1 a1 a2 w⟩
      obtain ⟨f, hr⟩ := open' w b hr
      exact (put_next w b _ m n true f c m n true f (nxB b) 0 enB hr (remB_not w b m n true f c c0 c1 hl' hr)).mono (fin w b n f (nxB b) (fun _ => rfl) (fun _ => rfl) (fun h => absurd h (by simp)))
  · -- over
    have ht' : t = ⟨4, n, e, bg⟩ := by rw [← ht]; rfl
    subst ht'
    refine ⟨fun w b hr => ?_, fun w => rp_over n m e c w⟩
    have hr' := hr
    obtain ⟨_, v, f, x, r1, _⟩ := hr
    refine (put_done w b m v bg f c 1 x (by decide) r1).mono ?_
    rintro e' w' ⟨rfl, rfl⟩
    exact ⟨rfl, hr', .refl _ _⟩
  · -- wrong
    have ht' : t = ⟨5, n, e, bg⟩ := by rw [← ht]; rfl
    subst ht'
    refine ⟨fun w b hr => ?_, fun w => rp_wrong n m e c w⟩
    have hr' := hr
    obtain ⟨_, v, f, x, r1, _⟩ := hr
    refine (put_done w b m v bg f c 2 x (by decide) r1).mono ?_
    rintro e' w' ⟨rfl, rfl⟩
    exact ⟨rfl, hr', .refl _ _⟩
end Go.Proofs.Ytkphfpckkmendaa

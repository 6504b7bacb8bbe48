/- A head's text, and what is parsed of it: plain facts. No condition. -/
import Derived.Test.YtkphfpckkmendaaHedT
import Derived.Test.YtkphfpckkmendaaFew
namespace Go.Proofs.Ytkphfpckkmendaa
open Go.RowKit
set_option linter.unusedVariables false
namespace Hj
/-- a head's text -/
def text (h : Hd.H) : ByteArray := strOfNums (Hd.bytes h)
theorem wr_may {h : Hd.H} (hm : Hd.May h) : wr h = .tuple #[.string (text h), .int .i64 0] := if_pos hm
theorem wr_two (h : Hd.H) : ∃ a e, wr h = .tuple #[.string a, .int .i64 e] := by
  unfold wr; split
  · exact ⟨_, _, rfl⟩
  · exact ⟨_, _, rfl⟩
theorem bytes_fit (h : Hd.H) : ∀ x ∈ Hd.bytes h, 0 ≤ x ∧ x ≤ 255 := by
  intro x hx
  unfold Hd.bytes at hx
  have hd := Nu.decV_bytes
  simp only [List.mem_append] at hx
  rcases hx with ((((((h | h) | h) | h) | h) | h) | h) | h
  · rw [List.mem_singleton.1 h]; omega
  · exact hd _ x h
  · rw [List.mem_singleton.1 h]; omega
  · exact hd _ x h
  · rw [List.mem_singleton.1 h]; omega
  · exact hd _ x h
  · rw [List.mem_singleton.1 h]; omega
  · split at h
    · cases h
    · rcases List.mem_append.1 h with h | h
      · exact hd _ x h
      · rw [List.mem_singleton.1 h]; omega
theorem text_bytes (h : Hd.H) : bytesOf (text h) = Hd.bytes h := bytesOf_strOfNums (bytes_fit h)
theorem text_len (h : Hd.H) : (text h).size = (Hd.bytes h).length := strOfNums_size _
theorem may_fit {h : Hd.H} (hm : Hd.May h) : Fit h := by
  obtain ⟨a, b, c, d, _⟩ := hm
  refine ⟨⟨?_, ?_⟩, ⟨?_, ?_⟩, ⟨?_, ?_⟩, ⟨?_, ?_⟩⟩ <;> omega
theorem text_size {h : Hd.H} (hf : Fit h) : (text h).size ≤ 271 := by
  rw [text_len]
  have a := Nu.decV_len hf.1
  have b := Nu.decV_len hf.2.1
  have c := Nu.decV_len hf.2.2.1
  have d := Nu.decV_len hf.2.2.2
  unfold Hd.bytes
  simp only [List.length_append, List.length_cons, List.length_nil]
  split <;> simp only [List.length_append, List.length_cons, List.length_nil] <;> omega
theorem lim_id {n hi : Int} (h1 : 1 ≤ n) (h2 : n ≤ hi) : Hd.lim n hi = n := (Hd.lim_self (by omega)).2 ⟨h1, h2⟩
theorem limits_id {a b c : Int} (a1 : 1 ≤ a) (a2 : a ≤ 4096) (b1 : 1 ≤ b) (b2 : b ≤ 65536) (c1 : 1 ≤ c) (c2 : c ≤ 65535) : Hd.limits a b c = ⟨a, b, c⟩ := by
  unfold Hd.limits; rw [lim_id a1 a2, lim_id b1 b2, lim_id c1 c2]
theorem text_parse {h : Hd.H} (hm : Hd.May h) {l : Hd.L} (hw : h.w ≤ l.m0) (hh : h.h ≤ l.m1) (hx : Hd.bits h.kd = true ∨ h.m ≤ l.m2) (F : ByteArray) : Hd.parseV l (bytesOf (text h ++ F)) = (h, ((text h).size : Int), 0) := by
  rw [bytesOf_append, text_bytes, text_len]; exact Hd.parse_bytes hm hw hh hx _
theorem text_parse0 {h : Hd.H} (hm : Hd.May h) {l : Hd.L} (hw : h.w ≤ l.m0) (hh : h.h ≤ l.m1) (hx : Hd.bits h.kd = true ∨ h.m ≤ l.m2) : Hd.parseV l (bytesOf (text h)) = (h, ((text h).size : Int), 0) := by
  have := Hd.parse_bytes hm hw hh hx []
  rw [List.append_nil] at this
  rw [text_bytes, text_len]; exact this
theorem text_beyond {h : Hd.H} (hm : Hd.May h) {l : Hd.L} (hl : l.Ok) (hw : ¬ (h.w ≤ l.m0 ∧ h.h ≤ l.m1 ∧ (Hd.bits h.kd = true ∨ h.m ≤ l.m2))) : (Hd.parseV l (bytesOf (text h))).2.2 = 4 := by
  rw [text_bytes]; exact Hd.parse_beyond hl hm hw
end Hj
end Go.Proofs.Ytkphfpckkmendaa

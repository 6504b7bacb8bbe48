/- The document's reader of digits is told a byte, way by way, over any memory. Condition: its head may be. -/
import Derived.Test.YtmnhiagppicegaaGreatZPlQ
namespace Go.Proofs.YtmnhiagppicegaaGreat
open Go.RowKit
set_option linter.unusedVariables false

section
variable (h : Hd.H) (N : Int) (a1 a2 : Option Addr) (k c1 r c2 : Nat) (rows last e c : Int) (c0 : 0 ≤ c) (c1' : c ≤ 255) (w : World)
include c0 c1'
end
theorem nw_mono {W W' : World} (h : W.heap.size ≤ W'.heap.size) {a : Option Addr} (hn : Nw W' a) : Nw W a := fun y hy => Nat.le_trans h (hn y hy)
theorem far_of {W : World} {a : Option Addr} (h : Nw W a) {b : Nat} (hb : b < W.heap.size) : ∀ y, a = some y → y.block ≠ b := fun y hy e => by have := h y hy; omega
end Go.Proofs.YtmnhiagppicegaaGreat

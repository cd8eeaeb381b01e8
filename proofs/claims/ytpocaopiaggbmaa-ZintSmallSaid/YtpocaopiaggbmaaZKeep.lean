/- What a region that draws its order is held to: the boxes of a law's arguments, and that nothing that was there has turned. -/
import Derived.Test.YtpocaopiaggbmaaZCount
namespace Go.Proofs.Ytpocaopiaggbmaa
open Go.RowKit

/-- One box, at the first new block. -/
abbrev S1 (w : World) (s : Bool) (A : Option Addr) (n c : Nat) (W : World) : Prop :=
  Below w.heap.size w W ∧ W.cell? ⟨w.heap.size, 0, none⟩ = some (.bool s) ∧ W.cell? ⟨w.heap.size, 1, none⟩ = some (.slice A n c)
theorem S1.mk {w W : World} {s : Bool} {A : Option Addr} {n c : Nat} (T : Below w.heap.size w W) (x : Blk W w.heap.size #[.bool s, .slice A n c]) : S1 w s A n c W := ⟨T, x.c0, x.c1⟩
theorem S1.drew {w W : World} {s : Bool} {A : Option Addr} {n c : Nat} (h : S1 w s A n c W) : S1 w s A n c W.drew := ⟨h.1.drew, h.2.1, h.2.2⟩
theorem S1.call {w W W' : World} {s : Bool} {A : Option Addr} {n c : Nat} (h : S1 w s A n c W) (b : Below W.heap.size W W') : S1 w s A n c W' := ⟨h.1.next b, cell_later b h.2.1, cell_later b h.2.2⟩
theorem S1.alloc {w W : World} {s : Bool} {A : Option Addr} {n c : Nat} (h : S1 w s A n c W) (o : Obj) : S1 w s A n c (W.alloc o) := h.call (bl_alloc W o)

/-- Two boxes, at the first two new blocks. -/
abbrev S2 (w : World) (s : Bool) (A : Option Addr) (n c : Nat) (t : Bool) (B : Option Addr) (m d : Nat) (W : World) : Prop :=
  Below w.heap.size w W ∧ W.cell? ⟨w.heap.size, 0, none⟩ = some (.bool s) ∧ W.cell? ⟨w.heap.size, 1, none⟩ = some (.slice A n c) ∧ W.cell? ⟨w.heap.size + 1, 0, none⟩ = some (.bool t) ∧ W.cell? ⟨w.heap.size + 1, 1, none⟩ = some (.slice B m d)
theorem S2.mk {w W : World} {s t : Bool} {A B : Option Addr} {n c m d : Nat} (T : Below w.heap.size w W) (x : Blk W w.heap.size #[.bool s, .slice A n c]) (y : Blk W (w.heap.size + 1) #[.bool t, .slice B m d]) : S2 w s A n c t B m d W := ⟨T, x.c0, x.c1, y.c0, y.c1⟩
theorem S2.drew {w W : World} {s t : Bool} {A B : Option Addr} {n c m d : Nat} (h : S2 w s A n c t B m d W) : S2 w s A n c t B m d W.drew := ⟨h.1.drew, h.2.1, h.2.2.1, h.2.2.2.1, h.2.2.2.2⟩
theorem S2.call {w W W' : World} {s t : Bool} {A B : Option Addr} {n c m d : Nat} (h : S2 w s A n c t B m d W) (b : Below W.heap.size W W') : S2 w s A n c t B m d W' :=
  ⟨h.1.next b, cell_later b h.2.1, cell_later b h.2.2.1, cell_later b h.2.2.2.1, cell_later b h.2.2.2.2⟩
theorem S2.alloc {w W : World} {s t : Bool} {A B : Option Addr} {n c m d : Nat} (h : S2 w s A n c t B m d W) (o : Obj) : S2 w s A n c t B m d (W.alloc o) := h.call (bl_alloc W o)
end Go.Proofs.Ytpocaopiaggbmaa

/- What is kept through NodeLive's loops. No condition. -/
import Derived.Test.YtdmganpblkepfaaLiveSix
namespace Go.Proofs.Ytdmganpblkepfaa
open Go.RowKit
structure LS (w0 w : World) (g p q : Nat) (L X Y : List UInt8) : Prop where
  a : LArr w g L
  p : LArr w p X
  q : LArr w q Y
  b : Below w0.heap.size w0 w
section
variable {w0 w w' : World} {g p q z : Nat} {L X Y : List UInt8}
theorem LS.after (h : LS w0 w g p q L X Y) (hb : Below w.heap.size w w') : LS w0 w' g p q L X Y := ⟨h.a.after hb, h.p.after hb, h.q.after hb, h.b.trans (hb.mono h.b.size)⟩
theorem LS.grown (h : LS w0 w g p q L X Y) (hg : w.grownBy w' (some z)) (h1 : g < z) (h2 : p < z) (h3 : q < z) (h0 : w0.heap.size ≤ g) : LS w0 w' g p q L X Y :=
  ⟨h.a.grown hg (Nat.ne_of_lt h1), h.p.grown hg (Nat.ne_of_lt h2), h.q.grown hg (Nat.ne_of_lt h3), h.b.grown hg h.b.size (fun k e => by have := Option.some.inj e; omega)⟩
end
end Go.Proofs.Ytdmganpblkepfaa

/- The arguments that are nodes, commits, and sets of keys: what they read as. No condition. -/
import Derived.Test.YtdmganpblkepfaaOpen
import Derived.Test.YtdmganpblkepfaaHamArr
import Derived.Deep.Fields
import Derived.ChangeSame
namespace Go.Proofs.Ytdmganpblkepfaa
open Go.RowKit Go.ChangeShapes Go.WideShapes Go.ChangeAt
/-- a node as an argument -/
structure NodeV where
  k : Int
  e : Nat
  v : Value
  l : List UInt8
structure IsNode (w : World) (B : Nat) (u : Value) (n : NodeV) : Prop where
  eq : u = .agg #[.int .i64 n.k, .int .u64 (n.e : Int), n.v]
  k : (Lit.int .i64 n.k).wf = true
  e : n.e < 18446744073709551616
  b : Bytes w B n.v n.l
theorem IsNode.keep {w w' : World} {B : Nat} {u : Value} {n : NodeV} (h : IsNode w B u n) (hk : ∀ p : Addr, p.block < B → w'.cell? p = w.cell? p) : IsNode w' B u n := ⟨h.eq, h.k, h.e, h.b.keep hk⟩
section
variable {H : Type} {enc : TypeId × Value → H} {w : World} {r : Reach} {base b0 : Nat} {spare : Nat → Bool} {held : Bool} {v : Value} {d : DataW H} {ps : List MemPlace}
theorem cellsNode : Try.prog.cellsOf 25 = 3 := by kernel_rfl
theorem u64_wf {z : Int} (h : (Lit.int .u64 z).wf = true) : ∃ n : Nat, z = n ∧ n < 18446744073709551616 := by
  simp only [Lit.wf, Bool.and_eq_true, IntKind.min, IntKind.max, IntKind.signed, IntKind.bits] at h
  simp at h
  exact ⟨z.toNat, by omega, by omega⟩
theorem open_node (hval : Value.okWide Try.prog w r b0 25 v) (h : DataW.Trod enc Try.prog w base spare held 25 v d ps) : ∃ n, IsNode w w.heap.size v n := by
  simp only [Value.okWide, Try.underlying25] at hval
  obtain ⟨cs, rfl, hs, ts, ht, _, hc⟩ := hval
  rw [cellsNode] at hs
  obtain ⟨fuel, hf⟩ := h
  have hf' : DataW.trod enc Try.prog w base spare held fuel 25 cs.toList = some (d, ps) := hf
  obtain ⟨ys, n', hn', hy, hlen, hyl, hg⟩ := DataW.trod_struct Try.underlying25 hf'
  have g0 := hg 0 _ rfl
  have g1 := hg 1 _ rfl
  have g2 := hg 2 _ rfl
  obtain ⟨c0, c1, c2, hcs⟩ : ∃ c0 c1 c2, cs.toList = [c0, c1, c2] := by
    have : cs.toList.length = 3 := by simpa using hs
    match hx : cs.toList, this with
    | [a, b, c], _ => exact ⟨a, b, c, rfl⟩
  obtain rfl : cs = #[c0, c1, c2] := by
    apply Array.toList_inj.1
    rw [hcs]
  have y0 : ys[0]? = some (ys[0]'(by rw [hyl]; decide)) := List.getElem?_eq_getElem _
  have y1 : ys[1]? = some (ys[1]'(by rw [hyl]; decide)) := List.getElem?_eq_getElem _
  have y2 : ys[2]? = some (ys[2]'(by rw [hyl]; decide)) := List.getElem?_eq_getElem _
  have t0 : DataW.trod enc Try.prog w base spare held n' 3 [c0] = some _ := g0.trans y0
  have t1 : DataW.trod enc Try.prog w base spare held n' 22 [c1] = some _ := g1.trans y1
  have t2 : DataW.trod enc Try.prog w base spare held n' 23 [c2] = some _ := g2.trans y2
  obtain ⟨z0, e0, _, w0⟩ := DataW.trod_int Try.underlying3 t0
  obtain ⟨z1, e1, _, w1⟩ := DataW.trod_int Try.underlying22 t1
  obtain rfl : c0 = _ := List.head_eq_of_cons_eq e0
  obtain rfl : c1 = _ := List.head_eq_of_cons_eq e1
  obtain ⟨l, hl⟩ := bytes_nums (nums_cells Try.underlying23 Try.underlying5 (by kernel_rfl) t2)
  obtain ⟨m, rfl, hm⟩ := u64_wf w1
  exact ⟨⟨z0, m, c2, l⟩, rfl, w0, hm, hl⟩
end
end Go.Proofs.Ytdmganpblkepfaa

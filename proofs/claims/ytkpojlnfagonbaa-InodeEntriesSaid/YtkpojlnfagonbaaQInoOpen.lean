/- The argument that is an inode, or a slice of entries: what it reads as. No condition. -/
import Derived.Test.YtkpojlnfagonbaaQInoCheck
import Derived.Test.YtkpojlnfagonbaaQCore
import Derived.Test.YtkpojlnfagonbaaQOpenAgg
import Derived.Deep.Slices
import Derived.Deep.Fields
import Derived.ChangeSame
namespace Go.Proofs.Ytkpojlnfagonbaa
open Go.RowKit Go.ChangeShapes Go.WideShapes Go.ChangeAt
instance : Inhabited EN := ⟨⟨ByteArray.empty, 0⟩⟩
section
variable {H : Type} {enc : TypeId × Value → H} {w : World} {r : Reach} {base b0 : Nat} {spare : Nat → Bool} {held : Bool} {v : Value} {d : DataW H} {ps : List MemPlace}
theorem ents_of_trod {fuel : Nat} {u : Value} {x : DataW H × List MemPlace} (h : DataW.trod enc Try.prog w base spare held fuel 22 [u] = some x) : ∃ es, Ents w w.heap.size u es := by
  rcases open_agg_slice Try.underlying22 Try.underlying32 (by kernel_rfl) (by kernel_rfl) h with hcs | ⟨a', len', cap', m, hcs, hl, hm, hlm, hel⟩
  · simp only [List.cons.injEq, and_true] at hcs
    rw [hcs]
    exact ⟨[], Ents.nil 0 (by simp [maxLen])⟩
  · simp only [List.cons.injEq, and_true] at hcs
    subst hcs
    have each : ∀ i, i < len' → ∃ o : EN, a'.block < w.heap.size ∧ ∀ j u, (erow o)[j]? = some u → w.cell? (a'.add (i * 2 + j)) = some u := by
      intro i hi
      obtain ⟨n, hn⟩ := hel i (by omega)
      obtain ⟨v0, y0, c0, t0⟩ := hn 0 _ rfl
      obtain ⟨v1, y1, c1, t1⟩ := hn 1 _ rfl
      obtain ⟨z0, e0, _⟩ := DataW.trod_string Try.underlying9 t0
      obtain ⟨z1, e1, _, w1⟩ := DataW.trod_int Try.underlying3 t1
      obtain rfl : v0 = _ := List.head_eq_of_cons_eq e0
      obtain rfl : v1 = _ := List.head_eq_of_cons_eq e1
      refine ⟨⟨z0, z1⟩, ?_, ?_⟩
      · have := World.block_lt_of_cell? w _ c0
        rwa [add_block] at this
      · intro j u hu
        match j, hu with
        | 0, hu => cases hu; exact c0
        | 1, hu => cases hu; exact c1
        | j + 2, hu => exact absurd hu (by simp [erow])
    obtain ⟨f, hfb⟩ := Deep.choose_lt (α := EN) (n := len') (p := fun i o => a'.block < w.heap.size ∧ ∀ j u, (erow o)[j]? = some u → w.cell? (a'.add (i * 2 + j)) = some u) each
    refine ⟨(List.range len').map f, some a', cap', by simp, by simpa using hl, hm, ?_⟩
    intro j u hu
    have hj := get_lt hu
    rw [erows_length, List.length_map, List.length_range] at hj
    have hi : j / 2 < len' := by omega
    obtain ⟨hb, hc⟩ := hfb (j / 2) hi
    have hget : ((List.range len').map f)[j / 2]? = some (f (j / 2)) := by simp [hi]
    have hr : (erow (f (j / 2)))[j % 2]? = some u := by
      have hlt : j % 2 < (erow (f (j / 2))).length := by show _ < 2; omega
      have h1 := erows_get _ (j / 2) (j % 2) (f (j / 2)) ((erow (f (j / 2)))[j % 2]'hlt) hget (List.getElem?_eq_getElem hlt)
      rw [show j / 2 * 2 + j % 2 = j by omega, hu] at h1
      rw [List.getElem?_eq_getElem hlt]
      exact h1.symm
    have h2 := hc (j % 2) u hr
    rw [show j / 2 * 2 + j % 2 = j by omega] at h2
    exact ⟨a', rfl, hb, h2⟩
set_option maxRecDepth 100000 in
theorem open_ents (hval : Value.okWide Try.prog w r b0 22 v) (h : DataW.Trod enc Try.prog w base spare held 22 v d ps) : ∃ es, Ents w w.heap.size v es := by
  obtain ⟨a, len, cap, rfl⟩ := okWide_slice Try.underlying22 hval
  obtain ⟨fuel, hf⟩ := h
  exact ents_of_trod (u := .slice a len cap) hf
/-- an inode as an argument -/
structure IsInode (w : World) (B : Nat) (u : Value) (n : IN) : Prop where
  eq : ∃ v, u = .agg #[.int .i64 n.k, .int .i64 n.z, v] ∧ Ents w B v n.es
  k : (Lit.int .i64 n.k).wf = true
  z : (Lit.int .i64 n.z).wf = true
theorem cellsInode : Try.prog.cellsOf 24 = 3 := by kernel_rfl
set_option maxRecDepth 100000 in
theorem open_inode (hval : Value.okWide Try.prog w r b0 24 v) (h : DataW.Trod enc Try.prog w base spare held 24 v d ps) : ∃ n, IsInode w w.heap.size v n := by
  simp only [Value.okWide, Try.underlying24] at hval
  obtain ⟨cs, rfl, hs, ts, ht, _, hc⟩ := hval
  rw [cellsInode] at hs
  obtain ⟨fuel, hf⟩ := h
  have hf' : DataW.trod enc Try.prog w base spare held fuel 24 cs.toList = some (d, ps) := hf
  obtain ⟨ys, n', hn', hy, hlen, hyl, hg⟩ := DataW.trod_struct Try.underlying24 hf'
  have g0 := hg 0 _ rfl
  have g1 := hg 1 _ rfl
  have g2 := hg 2 _ rfl
  obtain ⟨c0, c1, c2, hcs⟩ : ∃ c0 c1 c2, cs.toList = [c0, c1, c2] := by
    have : cs.toList.length = 3 := by simpa using hs
    match hx : cs.toList, this with
    | [a, b, c], _ => exact ⟨a, b, c, rfl⟩
  obtain rfl : cs = #[c0, c1, c2] := by
    apply Array.toList_inj.1
    rw [hcs]
  have y0 : ys[0]? = some (ys[0]'(by rw [hyl]; decide)) := List.getElem?_eq_getElem _
  have y1 : ys[1]? = some (ys[1]'(by rw [hyl]; decide)) := List.getElem?_eq_getElem _
  have y2 : ys[2]? = some (ys[2]'(by rw [hyl]; decide)) := List.getElem?_eq_getElem _
  have t0 : DataW.trod enc Try.prog w base spare held n' 3 [c0] = some _ := g0.trans y0
  have t1 : DataW.trod enc Try.prog w base spare held n' 3 [c1] = some _ := g1.trans y1
  have t2 : DataW.trod enc Try.prog w base spare held n' 22 [c2] = some _ := g2.trans y2
  obtain ⟨z0, e0, _, w0⟩ := DataW.trod_int Try.underlying3 t0
  obtain ⟨z1, e1, _, w1⟩ := DataW.trod_int Try.underlying3 t1
  obtain rfl : c0 = _ := List.head_eq_of_cons_eq e0
  obtain rfl : c1 = _ := List.head_eq_of_cons_eq e1
  obtain ⟨es, he⟩ := ents_of_trod t2
  exact ⟨⟨z0, z1, es⟩, ⟨c2, rfl, he⟩, w0, w1⟩
end
end Go.Proofs.Ytkpojlnfagonbaa


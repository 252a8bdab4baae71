/- The arguments that are views, and slices of views: what they read as. No condition. -/
import Derived.Test.YticigjkaangkmaaQViewN
import Derived.Test.YticigjkaangkmaaQCore
import Derived.Deep.Fields
import Derived.ChangeSame
namespace Go.Proofs.Yticigjkaangkmaa
open Go.RowKit Go.ChangeShapes Go.WideShapes Go.ChangeAt
instance : Inhabited VV := ⟨VV.zero⟩
/-- a view as an argument -/
def IsView (u : Value) (v : VV) : Prop := u = .agg #[.int .u64 (v.n : Int), .int .i64 v.m, .int .u64 (v.b : Int)] ∧ v.ok
theorem cellsView : Try.prog.cellsOf 24 = 3 := by kernel_rfl
theorem typesView : Try.prog.cellTypes Try.prog.depth 24 = some [22, 3, 22] := by kernel_rfl
theorem vcell_int {k : IntKind} {e : TypeId} {w : World} {r : Reach} {b0 : Nat} {x : Value} (he : Try.prog.underlying e = some (.int k)) (hk : Cell.okWide Try.prog w r b0 e x) : ∃ n, x = .int k n ∧ (Lit.int k n).wf = true := by
  simp only [Cell.okWide, Cell.ok, he] at hk
  cases x with
  | int k' n =>
    obtain ⟨rfl, hn⟩ := hk
    exact ⟨n, rfl, by simpa [IntKind.has, Lit.wf] using hn⟩
  | _ => exact hk.elim
theorem vu64_wf {z : Int} (h : (Lit.int .u64 z).wf = true) : ∃ n : Nat, z = n ∧ n < 18446744073709551616 := by
  simp only [Lit.wf, Bool.and_eq_true, IntKind.min, IntKind.max, IntKind.signed, IntKind.bits] at h
  simp at h
  exact ⟨z.toNat, by omega, by omega⟩
theorem open_view {w : World} {r : Reach} {b0 : Nat} {u : Value} (h : Value.okWide Try.prog w r b0 24 u) : ∃ v, IsView u v := by
  simp only [Value.okWide, Try.underlying24] at h
  obtain ⟨cs, rfl, hs, ts, ht, _, hc⟩ := h
  rw [cellsView] at hs
  rw [typesView] at ht
  obtain rfl := Option.some.inj ht
  have at_ : ∀ i (hi : i < 3), ∃ u, [22, 3, 22][i]? = some u ∧ Cell.okWide Try.prog w r b0 u (cs[i]'(by omega)) := by
    intro i hi
    obtain ⟨u, hu, hk⟩ := hc i _ (Array.getElem?_eq_getElem (by omega))
    rw [show [22, 3, 22].length = 3 from rfl, Nat.mod_eq_of_lt hi] at hu
    exact ⟨u, hu, hk⟩
  obtain ⟨u0, h0, k0⟩ := at_ 0 (by omega)
  obtain ⟨u1, h1, k1⟩ := at_ 1 (by omega)
  obtain ⟨u2, h2, k2⟩ := at_ 2 (by omega)
  obtain rfl : 22 = u0 := by simpa using h0
  obtain rfl : 3 = u1 := by simpa using h1
  obtain rfl : 22 = u2 := by simpa using h2
  obtain ⟨z0, e0, w0⟩ := vcell_int Try.underlying22 k0
  obtain ⟨z1, e1, w1⟩ := vcell_int Try.underlying3 k1
  obtain ⟨z2, e2, w2⟩ := vcell_int Try.underlying22 k2
  obtain ⟨n0, rfl, l0⟩ := vu64_wf w0
  obtain ⟨n2, rfl, l2⟩ := vu64_wf w2
  refine ⟨⟨n0, z1, n2⟩, ?_, ⟨l0, w1, l2⟩⟩
  congr 1
  apply Array.ext (by rw [hs]; rfl)
  intro i h1 h2
  have hi : i < 3 := by omega
  match i, hi with
  | 0, _ => exact e0
  | 1, _ => exact e1
  | 2, _ => exact e2
theorem vopen_agg_slice {H : Type} {enc : TypeId × Value → H} {w : World} {base : Nat} {spare : Nat → Bool} {held : Bool} {t e : TypeId} {fs : Array Field} {fuel : Nat} {P : Program} {cs : List Value} {x : DataW H × List MemPlace} (ht : P.underlying t = some (.slice e)) (he : P.underlying e = some (.struct fs))
    (hone : Go.Deep.oneCellFields P fs = true) (hC : P.cellsOf e = fs.size) (h : DataW.trod enc P w base spare held fuel t cs = some x) :
    cs = [.slice none 0 0] ∨
    ∃ (a : Addr) (len cap m : Nat), cs = [.slice (some a) len cap] ∧ len ≤ cap ∧ cap ≤ maxLen ∧ len ≤ m ∧
      ∀ i, i < m → ∃ n, ∀ (j : Nat) (f : Field), fs[j]? = some f → ∃ (v : Value) (y : DataW H × List MemPlace), w.cell? (a.add (i * fs.size + j)) = some v ∧ DataW.trod enc P w base spare held n f.type [v] = some y := by
  rcases Go.Deep.open_slice ht h with h0 | ⟨a, len, cap, m, n, D, Pl, hcs, hb, hl, hm, hmm, hx, hi⟩
  · exact .inl h0.1
  · refine .inr ⟨a, len, cap, m, hcs, hl, hm, by rw [hmm]; split <;> omega, fun i him => ?_⟩
    obtain ⟨cs', hc, ht'⟩ := hi i him
    rw [hC] at hc
    obtain ⟨ys, n', hn', hy, hlen, hyl, hf⟩ := DataW.trod_struct he ht'
    obtain ⟨_, hcl, hat⟩ := World.cells?_some hc
    refine ⟨n', fun j f hj => ?_⟩
    obtain ⟨ho, hk⟩ := Go.Deep.hone_of hone j f hj
    have hjl : j < fs.size := (Array.getElem?_eq_some_iff.1 hj).1
    have hcell := hat j hjl
    have hv : cs'[j]? = some (cs'[j]'(by omega)) := List.getElem?_eq_getElem (by omega)
    have h1 := hf j f hj
    rw [ho, hk] at h1
    have hone' : (cs'.drop j).take 1 = [cs'[j]'(by omega)] := by
      rw [List.drop_eq_getElem_cons (by omega)]
      rfl
    rw [hone'] at h1
    have hys : ys[j]? = some (ys[j]'(by omega)) := List.getElem?_eq_getElem (by omega)
    refine ⟨_, _, ?_, h1.trans hys⟩
    rw [← Go.Deep.add_add, hcell, hv]
/-- a slice of views as an argument -/
def IsViews (w : World) (B : Nat) (u : Value) (L : List VV) : Prop := ∃ A c, u = .slice A L.length c ∧ (∀ i v, L[i]? = some v → ∃ a, A = some a ∧ a.block < B ∧ ∀ j x, (vrow v)[j]? = some x → w.cell? (a.add (i * 3 + j)) = some x) ∧ ∀ v ∈ L, v.ok
theorem IsViews.keep {w w' : World} {B : Nat} {u : Value} {L : List VV} (h : IsViews w B u L) (hk : ∀ p : Addr, p.block < B → w'.cell? p = w.cell? p) : IsViews w' B u L := by
  obtain ⟨A, c, e, hr, ho⟩ := h
  refine ⟨A, c, e, fun i v hv => ?_, ho⟩
  obtain ⟨a, ea, hb, hc⟩ := hr i v hv
  exact ⟨a, ea, hb, fun j x hx => (hk _ (by rw [add_block]; exact hb)).trans (hc j x hx)⟩
section
variable {H : Type} {enc : TypeId × Value → H} {w : World} {r : Reach} {base b0 : Nat} {spare : Nat → Bool} {held : Bool} {u : Value} {d : DataW H} {ps : List MemPlace}
theorem open_views (hval : Value.okWide Try.prog w r b0 37 u) (h : DataW.Trod enc Try.prog w base spare held 37 u d ps) : ∃ L, IsViews w w.heap.size u L := by
  obtain ⟨a, len, cap, rfl⟩ := okWide_slice Try.underlying37 hval
  obtain ⟨fuel, hf⟩ := h
  have hf' : DataW.trod enc Try.prog w base spare held fuel 37 [.slice a len cap] = some (d, ps) := hf
  rcases vopen_agg_slice Try.underlying37 Try.underlying24 (by kernel_rfl) (by kernel_rfl) hf' with hcs | ⟨a', len', cap', m, hcs, hl, hm, hlm, hel⟩
  · simp only [List.cons.injEq, and_true] at hcs
    rw [hcs]
    exact ⟨[], none, 0, rfl, (fun i v h => by simp at h), fun o h => by simp at h⟩
  · simp only [List.cons.injEq, and_true, Value.slice.injEq] at hcs
    obtain ⟨rfl, rfl, rfl⟩ := hcs
    have each : ∀ i, i < len → ∃ o : VV, VV.ok o ∧ a'.block < w.heap.size ∧ ∀ j u, (vrow o)[j]? = some u → w.cell? (a'.add (i * 3 + j)) = some u := by
      intro i hi
      obtain ⟨n, hn⟩ := hel i (by omega)
      obtain ⟨v0, y0, c0, t0⟩ := hn 0 _ rfl
      obtain ⟨v1, y1, c1, t1⟩ := hn 1 _ rfl
      obtain ⟨v2, y2, c2, t2⟩ := hn 2 _ rfl
      obtain ⟨z0, e0, _, w0⟩ := DataW.trod_int Try.underlying22 t0
      obtain ⟨z1, e1, _, w1⟩ := DataW.trod_int Try.underlying3 t1
      obtain ⟨z2, e2, _, w2⟩ := DataW.trod_int Try.underlying22 t2
      obtain rfl : v0 = _ := List.head_eq_of_cons_eq e0
      obtain rfl : v1 = _ := List.head_eq_of_cons_eq e1
      obtain rfl : v2 = _ := List.head_eq_of_cons_eq e2
      obtain ⟨n0, rfl, l0⟩ := vu64_wf w0
      obtain ⟨n2, rfl, l2⟩ := vu64_wf w2
      refine ⟨⟨n0, z1, n2⟩, ⟨l0, w1, l2⟩, ?_, ?_⟩
      · have := World.block_lt_of_cell? w _ c0
        rwa [add_block] at this
      · intro j u hu
        match j, hu with
        | 0, hu => cases hu; exact c0
        | 1, hu => cases hu; exact c1
        | 2, hu => cases hu; exact c2
        | j + 3, hu => exact absurd hu (by simp [vrow])
    obtain ⟨f, hfb⟩ := Deep.choose_lt (α := VV) (n := len) (p := fun i o => VV.ok o ∧ a'.block < w.heap.size ∧ ∀ j u, (vrow o)[j]? = some u → w.cell? (a'.add (i * 3 + j)) = some u) each
    refine ⟨(List.range len).map f, some a', cap, by simp, fun i o ho => ?_, fun o ho => ?_⟩
    · have hi : i < len := by have := (List.getElem?_eq_some_iff.1 ho).1; simpa using this
      have : f i = o := by simpa [hi] using ho
      rw [← this]
      exact ⟨a', rfl, (hfb i hi).2.1, (hfb i hi).2.2⟩
    · obtain ⟨i, hi, rfl⟩ := List.mem_map.1 ho
      exact (hfb i (by simpa using hi)).1
end
end Go.Proofs.Yticigjkaangkmaa


/- Layer 10: the argument that is a slice of loads: what it reads as; the example of the document. No condition. -/
import Derived.Test.YtdmganpblkepfaaWearLoads
import Derived.Test.YtdmganpblkepfaaWearPick
import Derived.Test.YtdmganpblkepfaaWearGap
namespace Go.Proofs.Ytdmganpblkepfaa
open Go.RowKit WM Go.ChangeShapes Go.WideShapes Go.ChangeAt
section
variable {H : Type} {enc : TypeId × Value → H} {w : World} {r : Reach} {base b0 : Nat} {spare : Nat → Bool} {held : Bool} {v : Value} {d : DataW H} {ps : List MemPlace}
theorem u64_wf2 {z : Int} (h : (Lit.int .u64 z).wf = true) : ∃ n : Nat, z = n ∧ n < 18446744073709551616 := by
  simp only [Lit.wf, Bool.and_eq_true, IntKind.min, IntKind.max, IntKind.signed, IntKind.bits] at h
  simp at h
  exact ⟨z.toNat, by omega, by omega⟩
theorem open_agg_slice {t e : TypeId} {fs : Array Field} {fuel : Nat} {P : Program} {cs : List Value} {x : DataW H × List MemPlace} (ht : P.underlying t = some (.slice e)) (he : P.underlying e = some (.struct fs))
    (hone : Go.Deep.oneCellFields P fs = true) (hC : P.cellsOf e = fs.size) (h : DataW.trod enc P w base spare held fuel t cs = some x) :
    cs = [.slice none 0 0] ∨
    ∃ (a : Addr) (len cap m : Nat), cs = [.slice (some a) len cap] ∧ len ≤ cap ∧ cap ≤ maxLen ∧ len ≤ m ∧
      ∀ i, i < m → ∃ n, ∀ (j : Nat) (f : Field), fs[j]? = some f → ∃ (v : Value) (y : DataW H × List MemPlace), w.cell? (a.add (i * fs.size + j)) = some v ∧ DataW.trod enc P w base spare held n f.type [v] = some y := by
  rcases Go.Deep.open_slice ht h with h0 | ⟨a, len, cap, m, n, D, Pl, hcs, hb, hl, hm, hmm, hx, hi⟩
  · exact .inl h0.1
  · refine .inr ⟨a, len, cap, m, hcs, hl, hm, by rw [hmm]; split <;> omega, fun i him => ?_⟩
    obtain ⟨cs', hc, ht'⟩ := hi i him
    rw [hC] at hc
    obtain ⟨ys, n', hn', hy, hlen, hyl, hf⟩ := DataW.trod_struct he ht'
    obtain ⟨_, hcl, hat⟩ := World.cells?_some hc
    refine ⟨n', fun j f hj => ?_⟩
    obtain ⟨ho, hk⟩ := Go.Deep.hone_of hone j f hj
    have hjl : j < fs.size := (Array.getElem?_eq_some_iff.1 hj).1
    have hcell := hat j hjl
    have hv : cs'[j]? = some (cs'[j]'(by omega)) := List.getElem?_eq_getElem (by omega)
    have h1 := hf j f hj
    rw [ho, hk] at h1
    have hone' : (cs'.drop j).take 1 = [cs'[j]'(by omega)] := by
      rw [List.drop_eq_getElem_cons (by omega)]
      rfl
    rw [hone'] at h1
    have hys : ys[j]? = some (ys[j]'(by omega)) := List.getElem?_eq_getElem (by omega)
    refine ⟨_, _, ?_, h1.trans hys⟩
    rw [← Go.Deep.add_add, hcell, hv]
theorem flat_row {A : Addr} {B : Nat} {L : List LV} (h : ∀ i l, L[i]? = some l → A.block < B ∧ ∀ j u, (rrow l)[j]? = some u → w.cell? (A.add (i * 4 + j)) = some u) : Row w B (some A) (L.flatMap rrow) := by
  intro q u hu
  have hlt := get_lt hu
  rw [flat_length rrow_len] at hlt
  have hi : q / 4 < L.length := by omega
  obtain ⟨hb, hc⟩ := h (q / 4) _ (List.getElem?_eq_getElem hi)
  have hj : q % 4 < (rrow L[q / 4]).length := by rw [rrow_len]; omega
  have e := flat_get rrow_len L (q / 4) (q % 4) _ _ (List.getElem?_eq_getElem hi) (List.getElem?_eq_getElem hj)
  rw [show q / 4 * 4 + q % 4 = q by omega, hu] at e
  refine ⟨A, rfl, hb, ?_⟩
  have := hc (q % 4) _ (List.getElem?_eq_getElem hj)
  rw [show q / 4 * 4 + q % 4 = q by omega] at this
  rw [this]
  exact e.symm
theorem open_loads (hval : Value.okWide Try.prog w r b0 56 v) (h : DataW.Trod enc Try.prog w base spare held 56 v d ps) : ∃ L, Loads w w.heap.size v L := by
  obtain ⟨a, len, cap, rfl⟩ := okWide_slice Try.underlying56 hval
  obtain ⟨fuel, hf⟩ := h
  have hf' : DataW.trod enc Try.prog w base spare held fuel 56 [.slice a len cap] = some (d, ps) := hf
  rcases open_agg_slice Try.underlying56 Try.underlying65 (by kernel_rfl) (by kernel_rfl) hf' with hcs | ⟨a', len', cap', m, hcs, hl, hm, hlm, hel⟩
  · simp only [List.cons.injEq, and_true] at hcs
    rw [hcs]
    exact ⟨[], none, 0, rfl, Row.nil, fun o h => by simp at h⟩
  · simp only [List.cons.injEq, and_true, Value.slice.injEq] at hcs
    obtain ⟨rfl, rfl, rfl⟩ := hcs
    have each : ∀ i, i < len → ∃ o : LV, LV.ok o ∧ a'.block < w.heap.size ∧ ∀ j u, (rrow o)[j]? = some u → w.cell? (a'.add (i * 4 + j)) = some u := by
      intro i hi
      obtain ⟨n, hn⟩ := hel i (by omega)
      obtain ⟨v0, y0, c0, t0⟩ := hn 0 _ rfl
      obtain ⟨v1, y1, c1, t1⟩ := hn 1 _ rfl
      obtain ⟨v2, y2, c2, t2⟩ := hn 2 _ rfl
      obtain ⟨v3, y3, c3, t3⟩ := hn 3 _ rfl
      obtain ⟨z0, e0, _, w0⟩ := DataW.trod_int Try.underlying22 t0
      obtain ⟨z1, e1, _, w1⟩ := DataW.trod_int Try.underlying22 t1
      obtain ⟨z2, e2, _, w2⟩ := DataW.trod_int Try.underlying3 t2
      obtain ⟨z3, e3, _, w3⟩ := DataW.trod_int Try.underlying3 t3
      obtain rfl : v0 = _ := List.head_eq_of_cons_eq e0
      obtain rfl : v1 = _ := List.head_eq_of_cons_eq e1
      obtain rfl : v2 = _ := List.head_eq_of_cons_eq e2
      obtain rfl : v3 = _ := List.head_eq_of_cons_eq e3
      obtain ⟨n0, rfl, l0⟩ := u64_wf2 w0
      obtain ⟨n1, rfl, l1⟩ := u64_wf2 w1
      refine ⟨⟨n0, n1, z2, z3⟩, ⟨l0, l1, w2, w3⟩, ?_, ?_⟩
      · have := World.block_lt_of_cell? w _ c0
        rwa [add_block] at this
      · intro j u hu
        match j, hu with
        | 0, hu => cases hu; exact c0
        | 1, hu => cases hu; exact c1
        | 2, hu => cases hu; exact c2
        | 3, hu => cases hu; exact c3
        | j + 4, hu => exact absurd hu (by simp [rrow])
    obtain ⟨f, hfb⟩ := Deep.choose_lt (α := LV) (n := len) (p := fun i o => LV.ok o ∧ a'.block < w.heap.size ∧ ∀ j u, (rrow o)[j]? = some u → w.cell? (a'.add (i * 4 + j)) = some u) each
    refine ⟨(List.range len).map f, some a', cap, by simp, flat_row fun i o ho => ?_, fun o ho => ?_⟩
    · have hi : i < len := by have := (List.getElem?_eq_some_iff.1 ho).1; simpa using this
      have : f i = o := by simpa [hi] using ho
      rw [← this]
      exact ⟨(hfb i hi).2.1, (hfb i hi).2.2⟩
    · obtain ⟨i, hi, rfl⟩ := List.mem_map.1 ho
      exact (hfb i (by simpa using hi)).1
end
/-- the program's loads, and its victim -/
theorem loads_row {w : World} {base : Nat} {X : Option Addr} {n c : Nat} {L : List LV} (h : w.ownsRow base 87 5 (.slice X n c) n (L.flatMap mrow)) : Row w w.heap.size X (L.flatMap mrow) := rows_row h
def exL : List LV := [⟨1, 0, 0, 3⟩, ⟨2, 0, 0, 1⟩, ⟨3, 0, 0, 1⟩]
set_option maxRecDepth 100000 in
set_option maxHeartbeats 1000000 in
theorem wearspeaks_any (w : World) :
    Calls Try.prog 27 #[] w fun e w' => e = .returned (.bool true) ∧ Below w.heap.size w w' := by
  have hb1 := Lib.hid ((Below.refl w.heap.size w).alloc (Nat.le_refl _) (.cells (exL.flatMap rrow).toArray 65))
  have hr : Row (w.alloc (.cells (exL.flatMap rrow).toArray 65)) (w.heap.size + 1) (some ⟨w.heap.size, 0, none⟩) (exL.flatMap rrow) := by
    have := Row.new w (exL.flatMap rrow).toArray 65 (0, 0) w.heap.size rfl (Nat.lt_succ_self _)
    exact this
  have k := Lib.hid (loads_any _ exL 3 _ _ (by rw [World.size_alloc]; omega) hr (by decide))
  clear hr
  have hv := Lib.hid (show victim exL = some 1 by decide)
  go_enter Try.func27, Try.ntmps27
  go_wp2_with fail
  refine k.out.mono ?_
  rintro e w2 ⟨X, c', rfl, O2, h2⟩
  have T2 := Lib.hid (hb1.out.trans (h2.mono hb1.out.size))
  have kv := Lib.hid (victim_any X exL c' w2 w2.heap.size (Nat.le_refl _) (loads_row O2) (by decide))
  clear O2 h2
  go_wp2_with fail
  refine kv.out.mono ?_
  rintro e w3 ⟨rfl, h3⟩
  rw [hv.out]
  have T3 := Lib.hid (T2.out.trans (h3.mono T2.out.size))
  clear h3
  go_wp2_with ((with_reducible refine (room_any 14 _ (by omega)).mono ?_); rintro e w' ⟨rfl, hw⟩; rw [← hw]; clear hw w')
  go_ret
  exact ⟨rfl, T3.out⟩
end Go.Proofs.Ytdmganpblkepfaa

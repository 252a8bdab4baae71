/- The arguments of layer 20's laws: four integers, and a script of calls. No condition. -/
import Derived.Test.YtppodbijdhcclaaQCore
import Derived.Test.YtppodbijdhcclaaQOpenAgg
import Derived.Test.YtppodbijdhcclaaQCacheJD
import Derived.Test.YtppodbijdhcclaaQWearCells
import Derived.Deep.Slices
import Derived.Deep.Fields
import Derived.ChangeSame
namespace Go.Proofs.Ytppodbijdhcclaa
open Go.RowKit Go.ChangeShapes Go.WideShapes Go.ChangeAt
/-- a call as it lies in memory -/
structure OV where
  k : Int
  i : Int
  f : Int
  n : Int
  A : Option Addr
  m : Nat
  c : Nat
instance : Inhabited OV := ⟨⟨0, 0, 0, 0, none, 0, 0⟩⟩
def orow (x : OV) : List Value := [.int .i64 x.k, .int .i64 x.i, .int .i64 x.f, .int .i64 x.n, .slice x.A x.m x.c]
theorem orow_len (x : OV) : (orow x).length = 5 := rfl
def OV.wf (x : OV) : Prop := (Lit.int .i64 x.k).wf = true ∧ (Lit.int .i64 x.i).wf = true ∧ (Lit.int .i64 x.f).wf = true ∧ (Lit.int .i64 x.n).wf = true
theorem orows_get : ∀ (cs : List OV) (i j : Nat) (c : OV) (u : Value), cs[i]? = some c → (orow c)[j]? = some u → (cs.flatMap orow)[i * 5 + j]? = some u
  | [], i, j, c, u, h, _ => by simp at h
  | x :: xs, 0, j, c, u, h, hu => by
    cases h
    have hj : j < 5 := (List.getElem?_eq_some_iff.1 hu).1
    rw [List.flatMap_cons, Nat.zero_mul, Nat.zero_add, List.getElem?_append_left (by rw [orow_len]; exact hj)]
    exact hu
  | x :: xs, i + 1, j, c, u, h, hu => by
    rw [List.flatMap_cons, List.getElem?_append_right (by rw [orow_len]; omega), orow_len, show (i + 1) * 5 + j - 5 = i * 5 + j by omega]
    exact orows_get xs i j c u h hu
/-- v is a slice of calls: os as they lie, ls their bytes -/
def Ops20 (w : World) (B : Nat) (v : Value) (os : List OV) (ls : List (List UInt8)) : Prop :=
  (∃ A c, v = .slice A os.length c ∧ os.length ≤ c ∧ c ≤ maxLen ∧ Row w B A (os.flatMap orow)) ∧ (os.length = ls.length ∧ ∀ (i : Nat) (x : OV), os[i]? = some x → Bytes w B (.slice x.A x.m x.c) (ls.getD i [])) ∧ ∀ x ∈ os, x.wf
theorem Ops20.elem {w : World} {B : Nat} {A : Option Addr} {n c : Nat} {os : List OV} {ls : List (List UInt8)} (h : Ops20 w B (.slice A n c) os ls) {k : Nat} {x : OV} (hk : os[k]? = some x) : ∃ a, A = some a ∧ a.block < B ∧ ∀ j u, (orow x)[j]? = some u → w.cell? ((a.add (k * 5)).add j) = some u := by
  obtain ⟨⟨A', c', e, _, _, hr⟩, _⟩ := h
  cases e
  obtain ⟨a, rfl, hb, _⟩ := hr (k * 5 + 0) _ (orows_get os k 0 x _ hk rfl)
  refine ⟨a, rfl, hb, fun j u hu => ?_⟩
  obtain ⟨a', e, _, hc⟩ := hr (k * 5 + j) _ (orows_get os k j x u hk hu)
  cases e
  rw [Addr.add_add]
  exact hc
theorem Ops20.below {w w' : World} {B : Nat} {v : Value} {os : List OV} {ls : List (List UInt8)} (h : Ops20 w B v os ls) (hb : Below B w w') : Ops20 w' B v os ls := by
  obtain ⟨⟨A, c, h1, h2, h3, h4⟩, h5, h6⟩ := h
  exact ⟨⟨A, c, h1, h2, h3, h4.below hb⟩, ⟨h5.1, fun i x hx => (h5.2 i x hx).below hb⟩, h6⟩
theorem aggO : ∀ w, (isAgg 63).run Try.prog w = .ok true w := fun _ => by kernel_rfl
theorem sizeO : ∀ w, (sizeOf 63).run Try.prog w = .ok 5 w := fun _ => by kernel_rfl
section
variable {H : Type} {enc : TypeId × Value → H} {w : World} {r : Reach} {base b0 : Nat} {spare : Nat → Bool} {held : Bool} {v : Value} {d : DataW H} {ps : List MemPlace}
theorem ops_of_trod {fuel : Nat} {u : Value} {x : DataW H × List MemPlace} (h : DataW.trod enc Try.prog w base spare held fuel 59 [u] = some x) : ∃ cs ls, Ops20 w w.heap.size u cs ls := by
  rcases open_agg_slice Try.underlying59 Try.underlying63 (by kernel_rfl) (by kernel_rfl) h with hcs | ⟨a', len', cap', m, hcs, hl, hm, hlm, hel⟩
  · simp only [List.cons.injEq, and_true] at hcs
    rw [hcs]
    exact ⟨[], [], ⟨none, 0, rfl, Nat.le_refl _, by simp [maxLen], Row.nil⟩, ⟨rfl, fun i x h => by simp at h⟩, fun c h => by simp at h⟩
  · simp only [List.cons.injEq, and_true] at hcs
    subst hcs
    have each : ∀ i, i < len' → ∃ o : OV × List UInt8, a'.block < w.heap.size ∧ (∀ j u, (orow o.1)[j]? = some u → w.cell? (a'.add (i * 5 + j)) = some u) ∧ Bytes w w.heap.size (.slice o.1.A o.1.m o.1.c) o.2 ∧ o.1.wf := by
      intro i hi
      obtain ⟨n, hn⟩ := hel i (by omega)
      obtain ⟨v0, y0, c0, t0⟩ := hn 0 _ rfl
      obtain ⟨v1, y1, c1, t1⟩ := hn 1 _ rfl
      obtain ⟨v2, y2, c2, t2⟩ := hn 2 _ rfl
      obtain ⟨v3, y3, c3, t3⟩ := hn 3 _ rfl
      obtain ⟨v4, y4, c4, t4⟩ := hn 4 _ rfl
      obtain ⟨z0, e0, _, w0⟩ := DataW.trod_int Try.underlying3 t0
      obtain ⟨z1, e1, _, w1⟩ := DataW.trod_int Try.underlying3 t1
      obtain ⟨z2, e2, _, w2⟩ := DataW.trod_int Try.underlying3 t2
      obtain ⟨z3, e3, _, w3⟩ := DataW.trod_int Try.underlying3 t3
      obtain ⟨l, hl⟩ := bytes_nums (nums_cells Try.underlying44 Try.underlying5 (by kernel_rfl) t4)
      obtain rfl : v0 = _ := List.head_eq_of_cons_eq e0
      obtain rfl : v1 = _ := List.head_eq_of_cons_eq e1
      obtain rfl : v2 = _ := List.head_eq_of_cons_eq e2
      obtain rfl : v3 = _ := List.head_eq_of_cons_eq e3
      obtain ⟨A, c, rfl, hc1, hc2, hr⟩ := id hl
      refine ⟨(⟨z0, z1, z2, z3, A, l.length, c⟩, l), ?_, ?_, hl, ⟨w0, w1, w2, w3⟩⟩
      · have := World.block_lt_of_cell? w _ c0
        rwa [add_block] at this
      · intro j u hu
        match j, hu with
        | 0, hu => cases hu; exact c0
        | 1, hu => cases hu; exact c1
        | 2, hu => cases hu; exact c2
        | 3, hu => cases hu; exact c3
        | 4, hu => cases hu; exact c4
        | j + 5, hu => exact absurd hu (by simp [orow])
    obtain ⟨f, hfb⟩ := Deep.choose_lt (α := OV × List UInt8) (n := len') (p := fun i o => a'.block < w.heap.size ∧ (∀ j u, (orow o.1)[j]? = some u → w.cell? (a'.add (i * 5 + j)) = some u) ∧ Bytes w w.heap.size (.slice o.1.A o.1.m o.1.c) o.2 ∧ o.1.wf) each
    have hcl : ∀ cs : List OV, (cs.flatMap orow).length = 5 * cs.length := by
      intro cs
      induction cs with
      | nil => rfl
      | cons x xs ih => rw [List.flatMap_cons, List.length_append, orow_len, ih, List.length_cons]; omega
    refine ⟨(List.range len').map (fun i => (f i).1), (List.range len').map (fun i => (f i).2), ⟨some a', cap', by simp, by simpa using hl, hm, ?_⟩, ⟨by simp, ?_⟩, ?_⟩
    · intro j u hu
      have hj := get_lt hu
      rw [hcl, List.length_map, List.length_range] at hj
      have hi : j / 5 < len' := by omega
      obtain ⟨hb, hc, _⟩ := hfb (j / 5) hi
      have hget : ((List.range len').map (fun i => (f i).1))[j / 5]? = some (f (j / 5)).1 := by simp [hi]
      have hr : (orow (f (j / 5)).1)[j % 5]? = some u := by
        have hlt : j % 5 < (orow (f (j / 5)).1).length := by show _ < 5; omega
        have h1 := orows_get _ (j / 5) (j % 5) (f (j / 5)).1 ((orow (f (j / 5)).1)[j % 5]'hlt) hget (List.getElem?_eq_getElem hlt)
        rw [show j / 5 * 5 + j % 5 = j by omega, hu] at h1
        rw [List.getElem?_eq_getElem hlt]
        exact h1.symm
      have h2 := hc (j % 5) u hr
      rw [show j / 5 * 5 + j % 5 = j by omega] at h2
      exact ⟨a', rfl, hb, h2⟩
    · intro i x hx
      have hi : i < len' := by have := get_lt hx; simpa using this
      obtain ⟨_, _, hb, _⟩ := hfb i hi
      have e1 : (f i).1 = x := by simpa [hi] using hx
      rw [← e1]
      have e2 : ((List.range len').map (fun i => (f i).2)).getD i [] = (f i).2 := by simp [List.getD_eq_getElem?_getD, hi]
      rw [e2]
      exact hb
    · intro c hc
      obtain ⟨i, hi, rfl⟩ := List.mem_map.1 hc
      exact (hfb i (by simpa using hi)).2.2.2
set_option maxRecDepth 100000 in
theorem open_script20 (hval : Value.okWide Try.prog w r b0 59 v) (h : DataW.Trod enc Try.prog w base spare held 59 v d ps) : ∃ cs ls, Ops20 w w.heap.size v cs ls := by
  obtain ⟨a, len, cap, rfl⟩ := okWide_slice Try.underlying59 hval
  obtain ⟨fuel, hf⟩ := h
  exact ops_of_trod (u := .slice a len cap) hf
end
theorem typesFour : Try.prog.cellTypes Try.prog.depth 58 = some (List.replicate 4 3) := by kernel_rfl
theorem cellsFour : Try.prog.cellsOf 58 = 4 := by kernel_rfl
set_option maxRecDepth 100000 in
theorem open_four {w : World} {r : Reach} {b0 : Nat} {v : Value} (h : Value.okWide Try.prog w r b0 58 v) : ∃ zs : List Int, v = .agg (zs.map (Value.int .i64)).toArray ∧ zs.length = 4 := by
  simp only [Value.okWide, Try.underlying58] at h
  obtain ⟨cs, rfl, hs, ts, ht, _, hc⟩ := h
  rw [cellsFour] at hs
  rw [typesFour] at ht
  obtain rfl := Option.some.inj ht
  have one : ∀ i, i < 4 → ∃ a, cs[i]? = some (.int .i64 a) := by
    intro i hi
    have h2 : cs[i]? = some (cs[i]'(by omega)) := Array.getElem?_eq_getElem (by omega)
    obtain ⟨u, hu, hk⟩ := hc i _ h2
    have hu' : u = 3 := List.eq_of_mem_replicate (List.mem_of_getElem? hu)
    subst hu'
    rw [h2]
    generalize cs[i]'(by omega) = x at hk
    simp only [Cell.okWide, Cell.ok, Try.underlying3] at hk
    cases x with
    | int k' n =>
      obtain ⟨rfl, hn⟩ := hk
      exact ⟨n, rfl⟩
    | _ => exact hk.elim
  obtain ⟨a, ha⟩ := one 0 (by omega)
  obtain ⟨b, hb⟩ := one 1 (by omega)
  obtain ⟨c, hc2⟩ := one 2 (by omega)
  obtain ⟨d, hd⟩ := one 3 (by omega)
  refine ⟨[a, b, c, d], ?_, rfl⟩
  congr 1
  apply Array.ext_getElem?
  intro i
  match i with
  | 0 => simpa using ha
  | 1 => simpa using hb
  | 2 => simpa using hc2
  | 3 => simpa using hd
  | i + 4 => rw [Array.getElem?_eq_none (by omega), Array.getElem?_eq_none (by simp)]
end Go.Proofs.Ytppodbijdhcclaa


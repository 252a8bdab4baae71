/- The arguments that are changes, or lists of changes: what they read as. No condition. -/
import Derived.Test.YtppodbijdhcclaaQCachePutM
import Derived.Test.YtppodbijdhcclaaQCore
import Derived.Test.YtppodbijdhcclaaQOpenAgg
import Derived.Deep.Slices
import Derived.Deep.Fields
import Derived.ChangeSame
namespace Go.Proofs.Ytppodbijdhcclaa
open Go.RowKit Go.ChangeShapes Go.WideShapes Go.ChangeAt
instance : Inhabited CV := ⟨⟨0, false, none, 0, 0⟩⟩
/-- v is a slice of changes: cs as they lie, ls their bodies -/
structure ChL (w : World) (B : Nat) (v : Value) (cs : List CV) (ls : List (List UInt8)) : Prop where
  rows : Chs w B v cs
  bods : BodL w B cs ls
  keys : ∀ c ∈ cs, (Lit.int .i64 c.k).wf = true
theorem ChL.keep {w w' : World} {B : Nat} {v : Value} {cs : List CV} {ls : List (List UInt8)} (h : ChL w B v cs ls) (hk : ∀ p : Addr, p.block < B → w'.cell? p = w.cell? p) : ChL w' B v cs ls := by
  obtain ⟨⟨A, c, h1, h2, h3, h4⟩, h5, h6⟩ := h
  exact ⟨⟨A, c, h1, h2, h3, h4.keep hk⟩, ⟨h5.1, fun i x hx => (h5.2 i x hx).keep hk⟩, h6⟩
theorem ChL.below {w w' : World} {B : Nat} {v : Value} {cs : List CV} {ls : List (List UInt8)} (h : ChL w B v cs ls) (hb : Below B w w') : ChL w' B v cs ls := h.keep fun _ hp => hb.cell hp
theorem ChL.more {w : World} {B B' : Nat} {v : Value} {cs : List CV} {ls : List (List UInt8)} (h : ChL w B v cs ls) (hB : B ≤ B') : ChL w B' v cs ls := by
  obtain ⟨⟨A, c, h1, h2, h3, h4⟩, h5, h6⟩ := h
  exact ⟨⟨A, c, h1, h2, h3, h4.more hB⟩, ⟨h5.1, fun i x hx => (h5.2 i x hx).more hB⟩, h6⟩
/-- v is a slice of slices of changes -/
def Chss (w : World) (B : Nat) (v : Value) (xs : List (List CV × List (List UInt8))) : Prop :=
  ∃ A c vs, v = .slice A vs.length c ∧ vs.length ≤ maxLen ∧ vs.length = xs.length ∧ Row w B A vs ∧ ∀ (i : Nat) (u : Value), vs[i]? = some u → ∃ x, xs[i]? = some x ∧ ChL w B u x.1 x.2
theorem Chss.below {w w' : World} {B : Nat} {v : Value} {xs : List (List CV × List (List UInt8))} (h : Chss w B v xs) (hb : Below B w w') : Chss w' B v xs := by
  obtain ⟨A, c, vs, h1, h2, h3, h4, h5⟩ := h
  exact ⟨A, c, vs, h1, h2, h3, h4.below hb, fun i u hu => by obtain ⟨x, hx, hl⟩ := h5 i u hu; exact ⟨x, hx, hl.below hb⟩⟩
section
variable {H : Type} {enc : TypeId × Value → H} {w : World} {r : Reach} {base b0 : Nat} {spare : Nat → Bool} {held : Bool} {v : Value} {d : DataW H} {ps : List MemPlace}
theorem chs_of_trod {fuel : Nat} {u : Value} {x : DataW H × List MemPlace} (h : DataW.trod enc Try.prog w base spare held fuel 22 [u] = some x) : ∃ cs ls, ChL w w.heap.size u cs ls := by
  rcases open_agg_slice Try.underlying22 Try.underlying46 (by kernel_rfl) (by kernel_rfl) h with hcs | ⟨a', len', cap', m, hcs, hl, hm, hlm, hel⟩
  · simp only [List.cons.injEq, and_true] at hcs
    rw [hcs]
    exact ⟨[], [], ⟨none, 0, rfl, Nat.le_refl _, by simp [maxLen], Row.nil⟩, ⟨rfl, fun i x h => by simp at h⟩, fun c h => by simp at h⟩
  · simp only [List.cons.injEq, and_true] at hcs
    subst hcs
    have each : ∀ i, i < len' → ∃ o : CV × List UInt8, a'.block < w.heap.size ∧ (∀ j u, (crow o.1)[j]? = some u → w.cell? (a'.add (i * 3 + j)) = some u) ∧ Bytes w w.heap.size (.slice o.1.A o.1.n o.1.c) o.2 ∧ (Lit.int .i64 o.1.k).wf = true := by
      intro i hi
      obtain ⟨n, hn⟩ := hel i (by omega)
      obtain ⟨v0, y0, c0, t0⟩ := hn 0 _ rfl
      obtain ⟨v1, y1, c1, t1⟩ := hn 1 _ rfl
      obtain ⟨v2, y2, c2, t2⟩ := hn 2 _ rfl
      obtain ⟨z0, e0, _, w0⟩ := DataW.trod_int Try.underlying3 t0
      obtain ⟨z1, e1, _⟩ := DataW.trod_bool Try.underlying4 t1
      obtain ⟨l, hl⟩ := bytes_nums (nums_cells Try.underlying44 Try.underlying5 (by kernel_rfl) t2)
      obtain rfl : v0 = _ := List.head_eq_of_cons_eq e0
      obtain rfl : v1 = _ := List.head_eq_of_cons_eq e1
      obtain ⟨A, c, rfl, hc1, hc2, hr⟩ := id hl
      refine ⟨(⟨z0, z1, A, l.length, c⟩, l), ?_, ?_, hl, w0⟩
      · have := World.block_lt_of_cell? w _ c0
        rwa [add_block] at this
      · intro j u hu
        match j, hu with
        | 0, hu => cases hu; exact c0
        | 1, hu => cases hu; exact c1
        | 2, hu => cases hu; exact c2
        | j + 3, hu => exact absurd hu (by simp [crow])
    obtain ⟨f, hfb⟩ := Deep.choose_lt (α := CV × List UInt8) (n := len') (p := fun i o => a'.block < w.heap.size ∧ (∀ j u, (crow o.1)[j]? = some u → w.cell? (a'.add (i * 3 + j)) = some u) ∧ Bytes w w.heap.size (.slice o.1.A o.1.n o.1.c) o.2 ∧ (Lit.int .i64 o.1.k).wf = true) each
    have hcl : ∀ cs : List CV, (cs.flatMap crow).length = 3 * cs.length := by
      intro cs
      induction cs with
      | nil => rfl
      | cons x xs ih => rw [List.flatMap_cons, List.length_append, crow_len, ih, List.length_cons]; omega
    refine ⟨(List.range len').map (fun i => (f i).1), (List.range len').map (fun i => (f i).2), ⟨some a', cap', by simp, by simpa using hl, hm, ?_⟩, ⟨by simp, ?_⟩, ?_⟩
    · intro j u hu
      have hj := get_lt hu
      rw [hcl, List.length_map, List.length_range] at hj
      have hi : j / 3 < len' := by omega
      obtain ⟨hb, hc, _⟩ := hfb (j / 3) hi
      have hget : ((List.range len').map (fun i => (f i).1))[j / 3]? = some (f (j / 3)).1 := by simp [hi]
      have hr : (crow (f (j / 3)).1)[j % 3]? = some u := by
        have hlt : j % 3 < (crow (f (j / 3)).1).length := by show _ < 3; omega
        have h1 := crows_get _ (j / 3) (j % 3) (f (j / 3)).1 ((crow (f (j / 3)).1)[j % 3]'hlt) hget (List.getElem?_eq_getElem hlt)
        rw [show j / 3 * 3 + j % 3 = j by omega, hu] at h1
        rw [List.getElem?_eq_getElem hlt]
        exact h1.symm
      have h2 := hc (j % 3) u hr
      rw [show j / 3 * 3 + j % 3 = j by omega] at h2
      exact ⟨a', rfl, hb, h2⟩
    · intro i x hx
      have hi : i < len' := by have := get_lt hx; simpa using this
      obtain ⟨_, _, hb, _⟩ := hfb i hi
      have e1 : (f i).1 = x := by simpa [hi] using hx
      rw [← e1]
      have e2 : ((List.range len').map (fun i => (f i).2)).getD i [] = (f i).2 := by simp [List.getD_eq_getElem?_getD, hi]
      rw [e2]
      exact hb
    · intro c hc
      obtain ⟨i, hi, rfl⟩ := List.mem_map.1 hc
      exact (hfb i (by simpa using hi)).2.2.2
set_option maxRecDepth 100000 in
theorem open_chs (hval : Value.okWide Try.prog w r b0 22 v) (h : DataW.Trod enc Try.prog w base spare held 22 v d ps) : ∃ cs ls, ChL w w.heap.size v cs ls := by
  obtain ⟨a, len, cap, rfl⟩ := okWide_slice Try.underlying22 hval
  obtain ⟨fuel, hf⟩ := h
  exact chs_of_trod (u := .slice a len cap) hf
theorem chL_wid {B : Nat} {v : Value} {cs : List CV} {ls : List (List UInt8)} (h : ChL w B v cs ls) : ∃ A c, v = .slice A cs.length c ∧ cs.length ≤ c ∧ c ≤ maxLen := by
  obtain ⟨⟨A, c, e, h1, h2, _⟩, _⟩ := h
  exact ⟨A, c, e, h1, h2⟩
end
end Go.Proofs.Ytppodbijdhcclaa


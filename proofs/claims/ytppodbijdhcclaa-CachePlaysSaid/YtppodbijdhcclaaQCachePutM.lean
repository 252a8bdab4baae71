/- Put of the cache: what it answers, and what its map tells behind it. No condition. -/
import Derived.Test.YtppodbijdhcclaaQCacheRight
import Derived.Test.YtppodbijdhcclaaQLiveKeys
import Derived.Test.YtppodbijdhcclaaQLiveEq
import Derived.Test.YtppodbijdhcclaaQLogK
import Derived.Test.YtppodbijdhcclaaQCore
import Derived.RegionTactic
import Derived.Deep.RegionHeld3
namespace Go.Proofs.Ytppodbijdhcclaa
open Go Go.RowKit Go.Maps
theorem step_cput {ops : Array Oper} {o : Oper} {a : Act} {w : World} {K : Act → World → Prop} {Q : Exit → Act → World → Prop} {E : Prop} (hgd : Region.wanted o (yielded ops a.tmps) = true) (mm x v : Operand) (hop : o.op = .mapUpdate 87 mm x v)
    {m N : Nat} {D : DataW Value} (hm : a.eval mm = .map (some m)) (hown : w.ownsMap Try.prog 3 chR m N D) (hn : N < maxLen) (k : Int) (hx : a.eval x = .int .i64 k) (y : CV) (hv : a.eval v = cval y) (hwf : (Lit.int .i64 k).wf = true)
    (h : ∀ w', w'.ownsMap Try.prog 3 chR m (N + 1) (D.put (.int .i64 k) (.held (cval y))) → w.grownBy w' (some m) → K (a.put o.dst undef) w') : if Region.wanted o (yielded ops a.tmps) = true then Oper.wp Try.prog o a w K Q else E := by
  rw [if_pos hgd]
  obtain ⟨w', hrun, r1, r2⟩ := hown.store cKey Try.underlying87 hn (keyC hwf) (chR_mk y)
  unfold Oper.wp
  simp [execOp, hop, hm, hx, hv, hrun, Result.andThen]
  exact h w' r1 r2.grown
/-- what the map's elements say of their nodes: f as they lie, P plainly; their bodies' blocks are of S -/
def Tells (w : World) (S : Nat → Prop) (f : Int → Option CV) (P : Int → Option CE) : Prop := ∀ z, (f z).map (fun x => x.g) = (P z).map (fun e => e.gone) ∧ ∀ x e, f z = some x → P z = some e → BytesS w S (.slice x.A x.n x.c) e.body
theorem BytesS.grown {w w' : World} {row : Option Nat} {S : Nat → Prop} {v : Value} {l : List UInt8} (h : BytesS w S v l) (g : w.grownBy w' row) (hs : ∀ b, S b → some b ≠ row) : BytesS w' S v l := by
  obtain ⟨A, c, h1, h2, h3, h4⟩ := h
  refine ⟨A, c, h1, h2, h3, fun j u hu => ?_⟩
  obtain ⟨a, e, hS, hc⟩ := h4 j u hu
  exact ⟨a, e, hS, g.cell hc (by rw [add_block]; exact hs _ hS)⟩
theorem Tells.grown {w w' : World} {row : Option Nat} {S : Nat → Prop} {f : Int → Option CV} {P : Int → Option CE} (h : Tells w S f P) (g : w.grownBy w' row) (hs : ∀ b, S b → some b ≠ row) : Tells w' S f P := fun z => ⟨(h z).1, fun x e hx he => ((h z).2 x e hx he).grown g hs⟩
theorem BytesS.more {w : World} {S S' : Nat → Prop} {v : Value} {l : List UInt8} (h : BytesS w S v l) (hs : ∀ b, S b → S' b) : BytesS w S' v l := by
  obtain ⟨A, c, h1, h2, h3, h4⟩ := h
  refine ⟨A, c, h1, h2, h3, fun j u hu => ?_⟩
  obtain ⟨a, e, hS, hc⟩ := h4 j u hu
  exact ⟨a, e, hs _ hS, hc⟩
theorem Own.toS {w : World} {base : Nat} {A : Option Addr} {n c : Nat} {l : List UInt8} {S : Nat → Prop} (h : Own 5 w base (.slice A n c) l) (hs : ∀ b, base ≤ b → S b) (hl : l.length ≤ 100000) : BytesS w S (.slice A n c) l := by
  obtain ⟨A', c', e, h2, h3, h4⟩ := h.bytes (by simp only [maxLen]; omega)
  cases e
  refine ⟨A, c, rfl, h2, h3, fun j u hu => ?_⟩
  obtain ⟨a, e, _, hc⟩ := h4 j u hu
  subst e
  have h0 : 0 < l.length := by
    have := (List.getElem?_eq_some_iff.1 hu).1
    rw [bv_length] at this
    omega
  obtain ⟨g, e2, hb, _⟩ := h.addr h0
  cases e2
  exact ⟨_, rfl, hs _ hb, hc⟩
def putP (P : Int → Option CE) (k : Int) (g : Bool) (l : List UInt8) : Int → Option CE := fun z => if z = k then some ⟨g, if g then [] else l⟩ else P z
theorem Tells.put {w : World} {S : Nat → Prop} {f : Int → Option CV} {P : Int → Option CE} (h : Tells w S f P) (y : CV) (l : List UInt8) (hy : BytesS w S (.slice y.A y.n y.c) (if y.g then [] else l)) : Tells w S (fun z => if z = y.k then some y else f z) (putP P y.k y.g l) := fun z => by
  unfold putP
  by_cases e : z = y.k
  · simp only [if_pos e]
    exact ⟨rfl, fun x e hx he => by cases hx; cases he; exact hy⟩
  · simp only [if_neg e]
    exact h z
def putTo (P : Int → Option CE) (cs : List CV) (ls : List (List UInt8)) : Nat → Int → Option CE
  | 0 => P
  | i + 1 => putP (putTo P cs ls i) (cs.getD i ⟨0, false, none, 0, 0⟩).k (cs.getD i ⟨0, false, none, 0, 0⟩).g (ls.getD i [])
theorem rightC_key : ∀ (cs : List CV) (L : List UInt8), rightC L cs = true → ∀ (i : Nat) (x : CV), cs[i]? = some x → (0 ≤ x.k ∧ x.k < 256) ∧ x.n ≤ 224
  | [], _, _, i, x, h => by simp at h
  | c :: cs, L, hr, i, x, h => by
    unfold rightC at hr
    split at hr
    · rename_i hc
      cases i with
      | zero =>
        cases h
        have := hc.1
        unfold fitC at this
        simpa using this
      | succ i => exact rightC_key cs _ hr i x h
    · cases hr
theorem wfC {z : Int} (h : 0 ≤ z ∧ z < 256) : (Lit.int .i64 z).wf = true := by
  simp only [Lit.wf, Bool.and_eq_true, IntKind.min, IntKind.max, IntKind.signed, IntKind.bits]
  simp
  omega
/-- the bodies of the changes -/
def BodL (w : World) (B : Nat) (cs : List CV) (ls : List (List UInt8)) : Prop := cs.length = ls.length ∧ ∀ (i : Nat) (x : CV), cs[i]? = some x → Bytes w B (.slice x.A x.n x.c) (ls.getD i [])
theorem BodL.bods {w : World} {B : Nat} {cs : List CV} {ls : List (List UInt8)} (h : BodL w B cs ls) : Bods w B cs := fun i x hx => ⟨_, h.2 i x hx⟩
def liveF (f : Int → Option CV) (L : List UInt8) (z : Int) : Bool := match f z with | some x => !x.g | none => lhas L z
def cntL (L : List UInt8) : Nat := (keysTo L 256).length
end Go.Proofs.Ytppodbijdhcclaa


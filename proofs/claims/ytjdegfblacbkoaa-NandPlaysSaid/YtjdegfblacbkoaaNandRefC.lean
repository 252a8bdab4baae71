/- The reference's chip: what stands where, said by the same plain state as the program's chip. No condition. -/
import Derived.Test.YtjdegfblacbkoaaNandBad
import Derived.Test.YtjdegfblacbkoaaNandFault
import Derived.Test.YtjdegfblacbkoaaNandIn
import Derived.Test.YtjdegfblacbkoaaNandWipe
import Derived.Test.YtjdegfblacbkoaaNandFlip
import Derived.Test.YtjdegfblacbkoaaNandSeq
namespace Go.Proofs.Ytjdegfblacbkoaa
open Go.RowKit
/-- all pages, one behind the other -/
def pgsOf (Bs : List Bk) : List (List UInt8) := (Bs.map (·.pg)).flatten
theorem pgs_len8 {Bs : List Bk} (h : ∀ x ∈ Bs, x.ok) : ∀ l ∈ Bs.map (·.pg), l.length = 8 := fun l hl => by
  obtain ⟨b, hb, rfl⟩ := List.mem_map.1 hl
  exact (h b hb).1
theorem pgsOf_length {Bs : List Bk} (h : ∀ x ∈ Bs, x.ok) : (pgsOf Bs).length = 8 * Bs.length := by
  unfold pgsOf
  rw [NM.flat_length (n := 8) _ (pgs_len8 h), List.length_map]
  omega
theorem pgsOf_get {Bs : List Bk} (h : ∀ x ∈ Bs, x.ok) {b k : Nat} (hb : b < Bs.length) (hk : k < 8) : (pgsOf Bs)[8 * b + k]? = some (pageOf Bs b k) := by
  unfold pgsOf
  have e := NM.flat_get (n := 8) _ (pgs_len8 h) b (by simpa using hb) k hk
  rw [show 8 * b + k = b * 8 + k by omega, e, List.getElem_map]
  unfold pageOf
  rw [getBk hb, List.getD_eq_getElem?_getD]
  have hl : k < Bs[b].pg.length := by rw [(h _ (List.getElem_mem hb)).1]; exact hk
  rw [List.getElem?_eq_getElem hl, Option.getD_some]
theorem pgsOf_getD {Bs : List Bk} (h : ∀ x ∈ Bs, x.ok) {b k : Nat} (hb : b < Bs.length) (hk : k < 8) : (pgsOf Bs).getD (8 * b + k) [] = pageOf Bs b k := by
  rw [List.getD_eq_getElem?_getD, pgsOf_get h hb hk, Option.getD_some]
theorem pgsOf_put {Bs : List Bk} (h : ∀ x ∈ Bs, x.ok) {b k : Nat} (hb : b < Bs.length) (hk : k < 8) (l : List UInt8) : pgsOf (putPage Bs b k l) = (pgsOf Bs).set (8 * b + k) l := by
  unfold pgsOf
  have e := NM.flat_set (n := 8) _ (pgs_len8 h) b (by simpa using hb) k l hk
  rw [show 8 * b + k = b * 8 + k by omega, e, List.getElem_map]
  unfold putPage
  rw [getBk hb, List.map_set]
  rfl
theorem pgsOf_next {Bs : List Bk} {b : Nat} (hb : b < Bs.length) (n : Nat) : pgsOf (Bs.set b ((Bs.getD b ⟨[], 0, false⟩).setNext n)) = pgsOf Bs := by
  unfold pgsOf
  rw [getBk hb, List.map_set]
  have : (Bs[b].setNext n).pg = (Bs.map (·.pg))[b]'(by simpa using hb) := by simp [Bk.setNext]
  rw [this, List.set_getElem_self]
theorem pgsOf_wipe {Bs : List Bk} (h : ∀ x ∈ Bs, x.ok) {b : Nat} (hb : b < Bs.length) {n : Nat} (hn : n ≤ 8) : pgsOf (wipeB Bs b n) = NM.blanks b n (pgsOf Bs) := by
  have h' := wipeB_ok h hb n
  have hl : ∀ l ∈ (wipeB Bs b n).map (·.pg), l.length = 8 := pgs_len8 h'
  apply List.ext_getElem?
  intro i
  rw [NM.blanks_get]
  rcases Nat.lt_or_ge i (8 * Bs.length) with hi | hi
  · have hbi : i / 8 < Bs.length := by omega
    have hki : i % 8 < 8 := Nat.mod_lt _ (by omega)
    have e1 := pgsOf_get h' (b := i / 8) (k := i % 8) (by rw [wipeB_length]; exact hbi) hki
    have e2 := pgsOf_get h (b := i / 8) (k := i % 8) hbi hki
    rw [show 8 * (i / 8) + i % 8 = i by omega] at e1 e2
    rw [e1, e2, Option.map_some]
    congr 1
    unfold pageOf
    rw [getBk (by rw [wipeB_length]; exact hbi), getBk hbi]
    unfold wipeB
    rw [List.getElem_set]
    by_cases e : b = i / 8
    · subst e
      rw [if_pos rfl, getBk hb]
      have h8 := (h _ (List.getElem_mem hb)).1
      simp only [List.getD_eq_getElem?_getD]
      unfold wipP
      rw [h8, Nat.min_eq_left hn]
      by_cases e2 : i % 8 < n
      · rw [List.getElem?_append_left (by simpa using e2), List.getElem?_replicate, if_pos e2, if_pos (by omega)]
        rfl
      · rw [List.getElem?_append_right (by simpa using Nat.le_of_not_lt e2), List.length_replicate, List.getElem?_drop, if_neg (by omega)]
        rw [show n + (i % 8 - n) = i % 8 by omega]
    · rw [if_neg e, if_neg (by omega)]
  · have l1 := pgsOf_length h'
    have l2 := pgsOf_length h
    rw [wipeB_length] at l1
    rw [List.getElem?_eq_none (by omega), List.getElem?_eq_none (by omega)]
    rfl
theorem pgsOf_all {Bs : List Bk} (h : ∀ x ∈ Bs, x.ok) : ∀ l ∈ pgsOf Bs, l.length = 258 := fun l hl => by
  obtain ⟨P, hP, hl⟩ := List.mem_flatten.1 hl
  obtain ⟨b, hb, rfl⟩ := List.mem_map.1 hP
  exact (h b hb).2.1 l hl
theorem wr_clip {L d : List UInt8} (h : L.length = 258) (z : Int) : NM.wr z.toNat L d = NM.wr (min (max z 0) 258).toNat L d := by
  apply List.ext_getElem?
  intro i
  rw [NM.wr_get, NM.wr_get]
  rcases Nat.lt_or_ge i 258 with hi | hi
  · congr 1
    funext x
    have : (i < z.toNat) ↔ (i < (min (max z 0) 258).toNat) := by omega
    simp [this]
  · rw [List.getElem?_eq_none (by omega)]; rfl
/-- v holds the numbers zs, in block x, if there are any -/
def RNums (w : World) (x : Option Nat) (v : Value) (zs : List Int) : Prop :=
  ∃ A c, v = .slice A zs.length c ∧ zs.length ≤ c ∧ c ≤ maxLen ∧ (∀ z ∈ zs, (Lit.int .i64 z).wf = true) ∧ (∀ j u, (zs.map (Value.int .i64))[j]? = some u → ∃ p, A = some p ∧ x = some p.block ∧ p.block < w.heap.size ∧ w.cell? (p.add j) = some u)
section
variable {w w' : World} {x : Option Nat} {v : Value} {zs : List Int}
theorem RNums.nums (h : RNums w x v zs) : Nums w w.heap.size .i64 v zs := by
  obtain ⟨A, c, rfl, h1, h2, h3, h4⟩ := h
  exact ⟨A, c, rfl, h1, h2, fun j u hu => by obtain ⟨p, e, _, hp, hc⟩ := h4 j u hu; exact ⟨p, e, hp, hc⟩, h3⟩
theorem RNums.chg {T : Nat → Prop} (h : RNums w x v zs) (hc : Chg w w' T) (hx : ∀ k, x = some k → ¬ T k) : RNums w' x v zs := by
  obtain ⟨A, c, rfl, h1, h2, h3, h4⟩ := h
  refine ⟨A, c, rfl, h1, h2, h3, fun j u hu => ?_⟩
  obtain ⟨p, e, e2, hp, hcell⟩ := h4 j u hu
  refine ⟨p, e, e2, Nat.lt_of_lt_of_le hp hc.size, ?_⟩
  rw [← hcell]
  exact World.cell?_of_block (by rw [add_block]; exact hc.block _ hp (hx _ e2))
end
/-- where a reference's chip lies -/
structure RAt where
  c : Nat
  g : Nat
  n : Nat
  b : Nat
  p : Nat
  xp : Option Nat
  xe : Option Nat
def RAt.own (r : RAt) (k : Nat) : Prop := k = r.c ∨ k = r.g ∨ k = r.n ∨ k = r.b ∨ r.xp = some k ∨ r.xe = some k
def Ch.rcells (S : Ch) (r : RAt) (vp ve : Value) : List Value :=
  [.pointer (some ⟨r.p, 0, none⟩), .slice (some ⟨r.g, 0, none⟩) (8 * S.bs.length) (8 * S.bs.length), .slice (some ⟨r.n, 0, none⟩) S.bs.length S.bs.length, .slice (some ⟨r.b, 0, none⟩) S.bs.length S.bs.length, .bool S.dead, .bool S.out, vp, ve, .int .i64 (S.dp : Int), .int .i64 (S.de : Int), .int .i64 (S.cnt : Int)]
structure RChip (w : World) (r : RAt) (S : Ch) : Prop where
  cells : ∃ vp ve fp fe, Blk w r.c 53 (S.rcells r vp ve) ∧ RNums w r.xp vp fp ∧ RNums w r.xe ve fe ∧ (∀ i, S.fp i = decide (i ∈ fp)) ∧ (∀ i, S.fe i = decide (i ∈ fe))
  pgs : Pgs w r.g (pgsOf S.bs)
  nx : Blk w r.n 3 (S.bs.map fun b => .int .i64 (b.nx : Int))
  bd : Blk w r.b 4 (S.bs.map fun b => .bool b.bad)
  ok : ∀ x ∈ S.bs, x.ok
  len : 16 ≤ S.bs.length ∧ S.bs.length ≤ 40
  apart : r.c ≠ r.g ∧ r.c ≠ r.n ∧ r.c ≠ r.b ∧ r.g ≠ r.n ∧ r.g ≠ r.b ∧ r.n ≠ r.b
  pn : ¬ r.own r.p
  xps : ∀ k, r.xp = some k → k ≠ r.c ∧ k ≠ r.g ∧ k ≠ r.n ∧ k ≠ r.b
  xes : ∀ k, r.xe = some k → k ≠ r.c ∧ k ≠ r.g ∧ k ≠ r.n ∧ k ≠ r.b
section
variable {w w' : World} {r : RAt} {S : Ch}
theorem RChip.chg {T : Nat → Prop} (h : RChip w r S) (hc : Chg w w' T) (hT : ∀ k, r.own k → ¬ T k) : RChip w' r S := by
  obtain ⟨⟨vp, ve, fp, fe, h1, h2, h3, h4, h5⟩, r1, r2, r3, r4, r5, r6, r7, r8, r9⟩ := h
  exact ⟨⟨vp, ve, fp, fe, h1.chg hc (hT _ (.inl rfl)), h2.chg hc (fun k e => hT k (.inr (.inr (.inr (.inr (.inl e)))))), h3.chg hc (fun k e => hT k (.inr (.inr (.inr (.inr (.inr e)))))), h4, h5⟩, ⟨r1.1.chg hc (hT _ (.inr (.inl rfl))), r1.2⟩, r2.chg hc (hT _ (.inr (.inr (.inl rfl)))), r3.chg hc (hT _ (.inr (.inr (.inr (.inl rfl))))), r4, r5, r6, r7, r8, r9⟩
theorem RChip.after (h : RChip w r S) (hb : Below w.heap.size w w') : RChip w' r S := h.chg (T := fun _ => False) (Chg.of_below hb) (fun _ _ => id)
theorem RPow.chg {T : Nat → Prop} {p : Nat} {s : NM.Pwr} (h : RPow w p s) (hc : Chg w w' T) (hp : ¬ T p) : RPow w' p s := Blk.chg h hc hp
theorem RPow.after {p : Nat} {s : NM.Pwr} (h : RPow w p s) (hb : Below w.heap.size w w') : RPow w' p s := Blk.after h hb
theorem RChip.own_lt (h : RChip w r S) (hx : ∀ k, (r.xp = some k ∨ r.xe = some k) → k < w.heap.size) : ∀ k, r.own k → k < w.heap.size := fun k hk => by
  obtain ⟨⟨vp, ve, fp, fe, h1, h2, h3, h4, h5⟩, r1, r2, r3, _⟩ := h
  rcases hk with rfl | rfl | rfl | rfl | e | e
  · exact h1.lt
  · exact r1.1.lt
  · exact r2.lt
  · exact r3.lt
  · exact hx k (.inl e)
  · exact hx k (.inr e)
/-- one of the blocks' next pages turns -/
theorem RChip.next (h : RChip w r S) {b : Nat} (hb : b < S.bs.length) {n : Nat} (hn : n ≤ 8) {w' : World} (hg : w.grownBy w' (some r.n)) (hB : Blk w' r.n 3 ((S.bs.map fun b => .int .i64 (b.nx : Int)).set b (.int .i64 (n : Int)))) : RChip w' r (S.setNext b n) := by
  have hc : Chg w w' (fun k => k = r.n) := Chg.of_grown hg (fun k e => Option.some.inj e)
  obtain ⟨⟨vp, ve, fp, fe, h1, h2, h3, h4, h5⟩, r1, r2, r3, r4, r5, r6, r7, r8, r9⟩ := h
  obtain ⟨a1, a2, a3, a4, a5, a6⟩ := r6
  have hl : (S.setNext b n).bs.length = S.bs.length := by simp [Ch.setNext]
  have hmap : ∀ {β : Type} (f : Bk → β), (∀ x : Bk, f (x.setNext n) = f x) → (S.setNext b n).bs.map f = S.bs.map f := fun f hf => by
    unfold Ch.setNext
    simp only [List.map_set, getBk hb, hf]
    have : f S.bs[b] = (S.bs.map f)[b]'(by simpa using hb) := by simp
    rw [this, List.set_getElem_self]
  refine ⟨⟨vp, ve, fp, fe, ?_, h2.chg hc (fun k e => (r8 k e).2.2.1), h3.chg hc (fun k e => (r9 k e).2.2.1), h4, h5⟩, ?_, ?_, ?_, ?_, by rw [hl]; exact r5, ⟨a1, a2, a3, a4, a5, a6⟩, r7, r8, r9⟩
  · have e := h1.chg hc a2
    unfold Ch.rcells at e ⊢
    rw [hl]
    exact e
  · have : pgsOf (S.setNext b n).bs = pgsOf S.bs := pgsOf_next hb n
    rw [this]
    exact ⟨r1.1.chg hc a4, r1.2⟩
  · have : (S.setNext b n).bs.map (fun b => Value.int .i64 (b.nx : Int)) = (S.bs.map fun b => .int .i64 (b.nx : Int)).set b (.int .i64 (n : Int)) := by
      unfold Ch.setNext
      rw [List.map_set]
      rfl
    rw [this]
    exact hB
  · rw [hmap (fun b => Value.bool b.bad) (fun _ => rfl)]
    exact r3.chg hc (fun e => a6 e.symm)
  · intro x hx
    unfold Ch.setNext at hx
    rcases List.mem_or_eq_of_mem_set hx with h | h
    · exact r4 x h
    · rw [h, getBk hb]
      exact Bk.setNext_ok (r4 _ (List.getElem_mem hb)) hn
/-- the blocks' pages turn -/
theorem RChip.pages (h : RChip w r S) {Bs : List Bk} (h1 : Bs.length = S.bs.length) (h2 : Bs.map (·.nx) = S.bs.map (·.nx)) (h3 : Bs.map (·.bad) = S.bs.map (·.bad)) (h4 : ∀ x ∈ Bs, x.ok) {w' : World} (hg : w.grownBy w' (some r.g)) (hB : Pgs w' r.g (pgsOf Bs)) : RChip w' r { S with bs := Bs } := by
  have hc : Chg w w' (fun k => k = r.g) := Chg.of_grown hg (fun k e => Option.some.inj e)
  obtain ⟨⟨vp, ve, fp, fe, c1, c2, c3, c4, c5⟩, r1, r2, r3, r4, r5, r6, r7, r8, r9⟩ := h
  obtain ⟨a1, a2, a3, a4, a5, a6⟩ := r6
  refine ⟨⟨vp, ve, fp, fe, ?_, c2.chg hc (fun k e => (r8 k e).2.1), c3.chg hc (fun k e => (r9 k e).2.1), c4, c5⟩, hB, ?_, ?_, h4, by show 16 ≤ Bs.length ∧ _; rw [h1]; exact r5, ⟨a1, a2, a3, a4, a5, a6⟩, r7, r8, r9⟩
  · have e := c1.chg hc a1
    unfold Ch.rcells at e ⊢
    simp only [h1]
    exact e
  · have : Bs.map (fun b => Value.int .i64 (b.nx : Int)) = S.bs.map (fun b => Value.int .i64 (b.nx : Int)) := by
      have := congrArg (List.map fun n : Nat => Value.int .i64 (n : Int)) h2
      simpa [List.map_map, Function.comp_def] using this
    show Blk w' r.n _ (Bs.map _)
    rw [this]
    exact r2.chg hc (fun e => a4 e.symm)
  · have : Bs.map (fun b => Value.bool b.bad) = S.bs.map (fun b => Value.bool b.bad) := by
      have := congrArg (List.map fun n : Bool => Value.bool n) h3
      simpa [List.map_map, Function.comp_def] using this
    show Blk w' r.b _ (Bs.map _)
    rw [this]
    exact r3.chg hc (fun e => a5 e.symm)
/-- the chip's own cells turn -/
theorem RChip.own_cells (h : RChip w r S) {S' : Ch} (hbs : S'.bs = S.bs) (hfp : S'.fp = S.fp) (hfe : S'.fe = S.fe) {w' : World} (hg : w.grownBy w' (some r.c)) (hB : ∀ vp ve, Blk w r.c 53 (S.rcells r vp ve) → Blk w' r.c 53 (S'.rcells r vp ve)) : RChip w' r S' := by
  have hc : Chg w w' (fun k => k = r.c) := Chg.of_grown hg (fun k e => Option.some.inj e)
  obtain ⟨⟨vp, ve, fp, fe, c1, c2, c3, c4, c5⟩, r1, r2, r3, r4, r5, r6, r7, r8, r9⟩ := h
  obtain ⟨a1, a2, a3, a4, a5, a6⟩ := r6
  exact ⟨⟨vp, ve, fp, fe, hB vp ve c1, c2.chg hc (fun k e => (r8 k e).1), c3.chg hc (fun k e => (r9 k e).1), by rw [hfp]; exact c4, by rw [hfe]; exact c5⟩, by rw [hbs]; exact ⟨r1.1.chg hc (fun e => a1 e.symm), r1.2⟩, by rw [hbs]; exact r2.chg hc (fun e => a2 e.symm), by rw [hbs]; exact r3.chg hc (fun e => a3 e.symm), by rw [hbs]; exact r4, by rw [hbs]; exact r5, ⟨a1, a2, a3, a4, a5, a6⟩, r7, r8, r9⟩
end
end Go.Proofs.Ytjdegfblacbkoaa

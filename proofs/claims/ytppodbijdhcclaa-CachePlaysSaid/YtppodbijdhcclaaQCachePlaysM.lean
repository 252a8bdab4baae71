/- What CachePlays needs: both Puts answer alike. No condition. -/
import Derived.Test.YtppodbijdhcclaaQCacheSame
import Derived.Test.YtppodbijdhcclaaQChssOpen
namespace Go.Proofs.Ytppodbijdhcclaa
open Go Go.RowKit Go.Maps
/-- what a Put answers, and what was changed behind it -/
def putR (th : List Bool) (mo : Int) (P : Int → Option CE) (cs : List CV) (ls : List (List UInt8)) : Int :=
  if rightC lzeros cs = false then 1 else if mo < (cntP (behP th P cs ls) : Int) ∧ cntP (liveP th P) < cntP (behP th P cs ls) then 40 else 0
def putQ (th : List Bool) (mo : Int) (P : Int → Option CE) (cs : List CV) (ls : List (List UInt8)) : Int → Option CE :=
  if rightC lzeros cs = true ∧ ¬ (mo < (cntP (behP th P cs ls) : Int) ∧ cntP (liveP th P) < cntP (behP th P cs ls)) then putTo P cs ls cs.length else P
theorem behP_kg {cs ds : List CV} (th : List Bool) (P : Int → Option CE) (ls : List (List UInt8)) (h : cs.map kg = ds.map kg) : behP th P cs ls = behP th P ds ls := by
  have hl : cs.length = ds.length := by rw [← List.length_map (f := kg), h, List.length_map]
  unfold behP
  rw [putTo_kg P ls h, hl]
theorem rightC_kgn : ∀ (cs ds : List CV) (M : List UInt8), cs.map (fun x => (x.k, x.n)) = ds.map (fun x => (x.k, x.n)) → rightC M cs = rightC M ds
  | [], [], _, _ => rfl
  | [], d :: ds, _, h => by cases h
  | c :: cs, [], _, h => by cases h
  | c :: cs, d :: ds, M, h => by
    simp only [List.map_cons, List.cons.injEq, Prod.mk.injEq] at h
    unfold rightC fitC
    rw [h.1.1, h.1.2, rightC_kgn cs ds _ h.2]
theorem kgn_of {cs ds : List CV} {ls : List (List UInt8)} (h : cs.map kg = ds.map kg) (h1 : ∀ (i : Nat) (x : CV), cs[i]? = some x → x.n = (ls.getD i []).length) (h2 : ∀ (i : Nat) (x : CV), ds[i]? = some x → x.n = (ls.getD i []).length) : cs.map (fun x => (x.k, x.n)) = ds.map (fun x => (x.k, x.n)) := by
  refine List.ext_getElem? (fun i => ?_)
  rw [List.getElem?_map, List.getElem?_map]
  have h3 : (cs.map kg)[i]? = (ds.map kg)[i]? := by rw [h]
  rw [List.getElem?_map, List.getElem?_map] at h3
  cases hc : cs[i]? with
  | none =>
    rw [hc] at h3
    cases hd : ds[i]? with
    | none => rfl
    | some y => rw [hd] at h3; cases h3
  | some x =>
    rw [hc] at h3
    cases hd : ds[i]? with
    | none => rw [hd] at h3; cases h3
    | some y =>
      rw [hd] at h3
      simp only [Option.map_some, Option.some.injEq, kg, Prod.mk.injEq] at h3
      simp only [Option.map_some, Option.some.injEq, Prod.mk.injEq]
      exact ⟨h3.1, by rw [h1 i x hc, h2 i y hd]⟩
theorem putR_kg {cs ds : List CV} (th : List Bool) (mo : Int) (P : Int → Option CE) (ls : List (List UInt8)) (h : cs.map kg = ds.map kg) (h2 : rightC lzeros cs = rightC lzeros ds) : putR th mo P cs ls = putR th mo P ds ls := by
  unfold putR
  rw [h2, behP_kg th P ls h]
theorem putQ_kg {cs ds : List CV} (th : List Bool) (mo : Int) (P : Int → Option CE) (ls : List (List UInt8)) (h : cs.map kg = ds.map kg) (h2 : rightC lzeros cs = rightC lzeros ds) : putQ th mo P cs ls = putQ th mo P ds ls := by
  have hl : cs.length = ds.length := by rw [← List.length_map (f := kg), h, List.length_map]
  unfold putQ
  rw [h2, behP_kg th P ls h, putTo_kg P ls h, hl]
theorem PGood.putQ {P : Int → Option CE} (h : PGood P) (th : List Bool) (mo : Int) (cs : List CV) (ls : List (List UInt8)) (hn : ∀ (i : Nat) (x : CV), cs[i]? = some x → x.n = (ls.getD i []).length) : PGood (putQ th mo P cs ls) := by
  unfold Go.Proofs.Ytppodbijdhcclaa.putQ
  split
  · rename_i hr
    exact h.putTo cs ls (fun i x hx => ⟨(rightC_keys hr.1 hx).1, by rw [← hn i x hx]; exact (rightC_keys hr.1 hx).2⟩) cs.length (Nat.le_refl _)
  · exact h
theorem PGone.putQ {P : Int → Option CE} (h : PGone P) (th : List Bool) (mo : Int) (cs : List CV) (ls : List (List UInt8)) : PGone (putQ th mo P cs ls) := by
  unfold Go.Proofs.Ytppodbijdhcclaa.putQ
  split
  · exact h.putTo cs ls _
  · exact h
def PlaysP (w : World) (i : CI) (N : Nat) (S : Nat → Prop) (r : Int) (Q : Int → Option CE) (e : Ending) (w' : World) : Prop := ∃ S', e = .returned (.int .i64 r) ∧ CAt w' i N Q S' ∧ (∀ b, b < w.heap.size → ¬ S b → ¬ S' b) ∧ w.grownBy w' (some i.m)
theorem put_plays (i : CI) (N : Nat) (P : Int → Option CE) (S : Nat → Prop) (v : Value) (cs : List CV) (ls : List (List UInt8)) (w : World) (h : CAt w i N P S) (hc : Chs w w.heap.size v cs) (hl : BodL w w.heap.size cs ls) (hz : cs.length ≤ 40) (hN : N ≤ 1000000) :
    Calls Try.prog 19 #[.pointer (some ⟨i.q, 0, none⟩), v] w fun e w' => PlaysP w i (N + 40) S (putR i.th i.mo P cs ls) (putQ i.th i.mo P cs ls) e w' := by
  refine (put_cat i N P S v cs ls w h hc hl (by omega) hN).mono ?_
  unfold noSpace
  rintro e w' (⟨hr, rfl, b⟩ | ⟨hr, hn, rfl, b⟩ | ⟨hr, hn, rfl, g, ca⟩)
  · refine ⟨S, ?_, ?_, fun b _ hs => hs, only_of_below b _⟩
    · unfold putR; rw [if_pos hr]
    · unfold putQ; rw [if_neg (fun h => by rw [hr] at h; cases h.1)]; exact (h.after b).more (by omega)
  · refine ⟨S, ?_, ?_, fun b _ hs => hs, only_of_below b _⟩
    · unfold putR; rw [if_neg (by rw [hr]; simp), if_pos hn]
    · unfold putQ; rw [if_neg (fun h => h.2 hn)]; exact (h.after b).more (by omega)
  · refine ⟨fun b => S b ∨ w.heap.size ≤ b ∧ b < w'.heap.size, ?_, ?_, fun b hb hs h => ?_, g⟩
    · unfold putR; rw [if_neg (by rw [hr]; simp), if_neg hn]
    · unfold putQ; rw [if_pos ⟨hr, hn⟩]; exact ca.more (by omega)
    · rcases h with h | h
      · exact hs h
      · omega
theorem refPut_plays (r : Nat) (bs : List ByteArray) (th : List Bool) (P : Int → Option CE) (mo : Int) (v : Value) (cs : List CV) (ls : List (List UInt8)) (w : World) (B : Nat) (h : RcP w r bs th P mo) (hc : ChL w B v cs ls) (hB : B ≤ r) (hz : cs.length ≤ 1000) :
    Calls Try.prog 20 #[.pointer (some ⟨r, 0, none⟩), v] w fun e w' => e = .returned (.int .i64 (putR th mo P cs ls)) ∧ RcP w' r bs th (putQ th mo P cs ls) mo ∧ w.grownBy w' (some r) := by
  refine (refPut_any r bs th P mo v cs ls w B h hc hB hz).mono ?_
  unfold noRoom
  rintro e w' (⟨hr, rfl, b⟩ | ⟨hr, hn, rfl, b⟩ | ⟨hr, hn, rfl, g, hR⟩)
  · refine ⟨?_, ?_, only_of_below b _⟩
    · unfold putR; rw [if_pos hr]
    · unfold putQ; rw [if_neg (fun h => by rw [hr] at h; cases h.1)]; exact Rc.after h b
  · refine ⟨?_, ?_, only_of_below b _⟩
    · unfold putR; rw [if_neg (by rw [hr]; simp), if_pos hn]
    · unfold putQ; rw [if_neg (fun h => h.2 hn)]; exact Rc.after h b
  · refine ⟨?_, ?_, g⟩
    · unfold putR; rw [if_neg (by rw [hr]; simp), if_neg hn]
    · unfold putQ; rw [if_pos ⟨hr, hn⟩]; exact hR
/-- a list of changes of which all bodies may be written, whatever they say -/
structure ChMut (w : World) (base : Nat) (v : Value) (cs : List CV) : Prop where
  row : w.ownsRow base 46 3 v cs.length (cs.flatMap crow)
  free : ChFree w base v cs
  wrb : ∀ x ∈ cs, ∀ a, x.A = some a → Wrb w a x.n
  nul : ∀ x ∈ cs, x.A = none → x.n = 0
section
variable {w w' : World} {base : Nat} {v : Value} {cs : List CV}
theorem ChOwn.mut {ls : List (List UInt8)} (h : ChOwn w base v cs ls) (hf : ChFree w base v cs) : ChMut w base v cs := by
  refine ⟨h.row, hf, fun x hx a ha => ?_, fun x hx e => ?_⟩
  · obtain ⟨i, hi⟩ := List.mem_iff_getElem?.1 hx
    exact fun t ht => by
      obtain ⟨A, c, e, _, _, hr⟩ := h.bods i x hi
      obtain ⟨rfl, hn, rfl⟩ := Value.slice.inj e
      obtain ⟨a', ea, _, hc⟩ := hr t _ (bv_get (by omega))
      rw [ha] at ea
      cases ea
      exact ⟨⟨_, hc⟩, (hf.one x hx a ha).2 t⟩
  · obtain ⟨i, hi⟩ := List.mem_iff_getElem?.1 hx
    obtain ⟨A, c, e1, _, _, hr⟩ := h.bods i x hi
    obtain ⟨rfl, hn, rfl⟩ := Value.slice.inj e1
    rcases Nat.eq_zero_or_pos x.n with h0 | h0
    · exact h0
    · obtain ⟨a', ea, _⟩ := hr 0 _ (bv_get (by omega))
      rw [e] at ea
      cases ea
theorem ChMut.grown {row : Option Nat} (h : ChMut w base v cs) (g : w.grownBy w' row) (hr : ∀ b, row = some b → b < base) : ChMut w' base v cs := by
  have hrow : ∀ b, base ≤ b → some b ≠ row := fun b hb e => by have := hr b e.symm; omega
  refine ⟨World.ownsRow.kept h.row g ?_, ⟨fun x hx => (h.free.one x hx).grown g (fun b hb _ _ => hrow b hb), h.free.dis⟩, fun x hx a ha t ht => ?_, h.nul⟩
  · cases hv : v.ownBlock with
    | none => exact .inl rfl
    | some b => exact .inr (hrow b (World.ownsRow.lt h.row b hv).1)
  · obtain ⟨⟨u, hu⟩, hf⟩ := h.wrb x hx a ha t ht
    have h1 := (h.free.one x hx a ha).1
    have hblk := g.block a.block h1.2.1 (hrow _ h1.1)
    exact ⟨⟨u, (World.cell?_of_block (by rw [add_block]; exact hblk)).trans hu⟩, (World.frozen?_of_block (by rw [add_block]; exact hblk)).trans hf⟩
theorem ChMut.write {x : CV} {a : Addr} {u : Value} (h : ChMut w base v cs) (hx : x ∈ cs) (ha : x.A = some a) (k : Nat) : ChMut (w.setCell (a.add k) u) base v cs := by
  have h1 := (h.free.one x hx a ha).1
  have s := only_set w (a.add k) u
  rw [add_block] at s
  refine ⟨World.ownsRow.kept h.row s (.inr h1.2.2), ⟨fun y hy b hb => ?_, h.free.dis⟩, fun y hy b hb t ht => ?_, h.nul⟩
  · have h2 := h.free.one y hy b hb
    exact ⟨⟨h2.1.1, Nat.lt_of_lt_of_le h2.1.2.1 s.size, h2.1.2.2⟩, fun i => by rw [World.frozen?_setCell]; exact h2.2 i⟩
  · obtain ⟨⟨z, hz⟩, hf⟩ := h.wrb y hy b hb t ht
    exact ⟨cell?_setCell_some hz, by rw [World.frozen?_setCell]; exact hf⟩
theorem ChMut.rows (h : ChMut w base v cs) : Chs w w.heap.size v cs := ChFrom.rows (ls := []) (j := cs.length) ⟨h.row, h.free, fun i x hi hx => by have := get_lt hx; omega⟩
end
end Go.Proofs.Ytppodbijdhcclaa


/- A cache's state, plainly: what lies in memory, and what the contracts of New, Put, Live tell of it. No condition. -/
import Derived.Test.YtppodbijdhcclaaQCachePut
import Derived.Test.YtppodbijdhcclaaQCacheGet
namespace Go.Proofs.Ytppodbijdhcclaa
open Go Go.RowKit Go.Maps
/-- where a cache lies, and what its source is -/
structure CI where
  q : Nat
  m : Nat
  s : Nat
  bs : List ByteArray
  th : List Bool
  mo : Int
/-- a cache over its source: P tells what was changed; the blocks of S hold the bodies; the map was changed at most N times -/
def CAt (w : World) (i : CI) (N : Nat) (P : Int → Option CE) (S : Nat → Prop) : Prop :=
  Cc w i.q i.m i.s ∧ Src w i.s i.bs i.th i.mo ∧ (∀ b, S b → b ≠ i.m ∧ b < w.heap.size) ∧ ∃ N0 D f, N0 ≤ N ∧ w.ownsMap Try.prog 3 chR i.m N0 D ∧ MpD D f ∧ Tells w S f P
def liveP (th : List Bool) (P : Int → Option CE) (z : Int) : Bool := match P z with | some e => !e.gone | none => decide (0 ≤ z ∧ z < 256) && th.getD z.toNat false
def cntP (g : Int → Bool) : Nat := ((List.range 256).filter (fun (k : Nat) => g ((k : Nat) : Int))).length
theorem lhas_srcTo (th : List Bool) : ∀ k, k ≤ 256 → ∀ z, lhas (srcTo th k) z = (decide (0 ≤ z ∧ z < (k : Int)) && th.getD z.toNat false)
  | 0, _, z => by
    show lhas lzeros z = _
    have h : lhas lzeros z = false := by
      unfold lhas hasB
      have : (lzeros.getD (z.toNat / 8) 0) = 0 := by
        rw [List.getD_eq_getElem?_getD]
        unfold lzeros
        rw [List.getElem?_replicate]
        split <;> rfl
      rw [this]
      simp
    rw [h, decide_eq_false (by omega), Bool.false_and]
  | k + 1, hk, z => by
    show lhas (lput (srcTo th k) (th.getD k false) (k : Int)) z = _
    rw [lhas_lput (srcTo_length th k), lhas_srcTo th k (by omega) z]
    by_cases e : z = (k : Int)
    · subst e
      rw [if_pos ⟨rfl, by omega, by omega⟩, decide_eq_true (by omega), Bool.true_and]
      rfl
    · rw [if_neg (fun h => e h.1)]
      congr 1
      by_cases h : 0 ≤ z ∧ z < (k : Int)
      · rw [decide_eq_true h, decide_eq_true (by omega)]
      · rw [decide_eq_false h, decide_eq_false (by omega)]
theorem cntL_cntP {M : List UInt8} {g : Int → Bool} (h : ∀ z, lhas M z = g z) : cntL M = cntP g := by
  unfold cntL cntP keysTo
  rw [List.filter_congr (fun k hk => by rw [← lhas_nat M (by simpa using hk), h])]
theorem cntP_congr {g h : Int → Bool} (e : ∀ k : Nat, k < 256 → g (k : Int) = h (k : Int)) : cntP g = cntP h := by
  unfold cntP
  rw [List.filter_congr (fun k hk => e k (by simpa using hk))]
theorem liveF_liveP {w : World} {S : Nat → Prop} {f : Int → Option CV} {P : Int → Option CE} (th : List Bool) (h : Tells w S f P) (z : Int) : liveF f (srcTo th 256) z = liveP th P z := by
  have h1 := (h z).1
  unfold liveF liveP
  rw [lhas_srcTo th 256 (Nat.le_refl _) z]
  cases hf : f z with
  | none =>
    rw [hf] at h1
    cases hp : P z with
    | none => rfl
    | some e => rw [hp] at h1; cases h1
  | some x =>
    rw [hf] at h1
    cases hp : P z with
    | none => rw [hp] at h1; cases h1
    | some e =>
      rw [hp] at h1
      simp only [Option.map_some, Option.some.injEq] at h1
      simp only [h1]
section
variable {w w' : World} {i : CI} {N : Nat} {P : Int → Option CE} {S : Nat → Prop}
theorem CAt.cc (h : CAt w i N P S) : Cc w i.q i.m i.s := h.1
theorem CAt.src (h : CAt w i N P S) : Src w i.s i.bs i.th i.mo := h.2.1
theorem CAt.lt (h : CAt w i N P S) : i.q < w.heap.size ∧ i.m < w.heap.size ∧ i.s < w.heap.size ∧ i.q ≠ i.m ∧ i.s ≠ i.m := by
  obtain ⟨h1, h2, _, N0, D, f, _, h3, _⟩ := h
  exact ⟨Blk.lt h1, h3.lt, h2.lt, neMap h1 h3, neMap h2.1 h3⟩
/-- what a cache says stays, while none of its blocks is written -/
theorem CAt.grown {row : Option Nat} (h : CAt w i N P S) (g : w.grownBy w' row) (h1 : some i.q ≠ row) (h2 : some i.s ≠ row) (h3 : some i.m ≠ row) (h4 : ∀ b, S b → some b ≠ row) : CAt w' i N P S := by
  obtain ⟨a1, a2, a3, N0, D, f, a4, a5, a6, a7⟩ := h
  exact ⟨Blk.grown a1 g h1, a2.grown g h2, fun b hb => ⟨(a3 b hb).1, Nat.lt_of_lt_of_le (a3 b hb).2 g.size⟩, N0, D, f, a4, a5.kept g h3, a6, a7.grown g h4⟩
theorem CAt.after (h : CAt w i N P S) (hb : Below w.heap.size w w') : CAt w' i N P S := h.grown (only_of_below hb none) (by simp) (by simp) (by simp) (by simp)
theorem CAt.alloc (h : CAt w i N P S) (o : Obj) : CAt (w.alloc o) i N P S := h.after ((Below.refl _ _).alloc (Nat.le_refl _) o)
theorem CAt.drew (h : CAt w i N P S) : CAt w.drew i N P S := h.grown ⟨rfl, rfl, rfl, Nat.le_refl _, fun _ _ _ => rfl⟩ (row := none) (by simp) (by simp) (by simp) (by simp)
/-- a block that is none of the cache's -/
def CI.free (i : CI) (S : Nat → Prop) (g : Nat) : Prop := i.q ≠ g ∧ i.s ≠ g ∧ i.m ≠ g ∧ ¬ S g
theorem CAt.other {g : Nat} (h : CAt w i N P S) (hg : w.grownBy w' (some g)) (hf : i.free S g) : CAt w' i N P S :=
  h.grown hg (by simp only [ne_eq, Option.some.injEq]; exact hf.1) (by simp only [ne_eq, Option.some.injEq]; exact hf.2.1) (by simp only [ne_eq, Option.some.injEq]; exact hf.2.2.1) (fun b hb e => by cases e; exact hf.2.2.2 hb)
theorem CAt.free (h : CAt w i N P S) {g : Nat} (hg : w.heap.size ≤ g) : i.free S g := by
  obtain ⟨a, b, c, _, _⟩ := h.lt
  exact ⟨by omega, by omega, by omega, fun hs => by have := (h.2.2.1 g hs).2; omega⟩
theorem CAt.more {N' : Nat} (h : CAt w i N P S) (hn : N ≤ N') : CAt w i N' P S := by
  obtain ⟨a1, a2, a3, N0, D, f, a4, a5⟩ := h
  exact ⟨a1, a2, a3, N0, D, f, by omega, a5⟩
theorem CAt.congr {P' : Int → Option CE} (h : CAt w i N P S) (e : ∀ z, P z = P' z) : CAt w i N P' S := by
  have : P = P' := funext e
  subst this
  exact h
theorem bytesS_cut {v : Value} {l : List UInt8} (h : BytesS w S v l) : BytesS w (fun b => S b ∧ b < w.heap.size) v l := by
  obtain ⟨A, c, h1, h2, h3, h4⟩ := h
  refine ⟨A, c, h1, h2, h3, fun j u hu => ?_⟩
  obtain ⟨a, e, hS, hc⟩ := h4 j u hu
  refine ⟨a, e, ⟨hS, ?_⟩, hc⟩
  have := World.block_lt_of_cell? w _ hc
  rwa [add_block] at this
end
/-- New -/
theorem new_cat (s : Nat) (bs : List ByteArray) (th : List Bool) (mo : Int) (w : World) (hs : Src w s bs th mo) :
    Calls Try.prog 15 #[.iface 26 (.pointer (some ⟨s, 0, none⟩))] w fun e w' => ∃ q m, e = .returned (.pointer (some ⟨q, 0, none⟩)) ∧ w.heap.size ≤ q ∧ w.heap.size ≤ m ∧ CAt w' ⟨q, m, s, bs, th, mo⟩ 0 (fun _ => none) (fun _ => False) ∧ Below w.heap.size w w' := by
  refine (new_any s w).mono ?_
  rintro e w' ⟨q, m, rfl, hq, hm, h1, h2, h3⟩
  exact ⟨q, m, rfl, hq, hm, ⟨h1, hs.after h3, fun b h => h.elim, 0, _, _, Nat.le_refl _, h2, MpD.start, fun z => ⟨rfl, fun x e h => by cases h⟩⟩, h3⟩
/-- what the changes come to, plainly -/
def behP (th : List Bool) (P : Int → Option CE) (cs : List CV) (ls : List (List UInt8)) : Int → Bool := liveP th (putTo P cs ls cs.length)
theorem behL_snoc (M : List UInt8) (cs : List CV) {k : Nat} {x : CV} (h : cs[k]? = some x) : behL M (cs.take (k + 1)) = lput (behL M (cs.take k)) (!x.g) x.k := behL_take M h
theorem rightC_keys {cs : List CV} (h : rightC lzeros cs = true) {k : Nat} {x : CV} (hx : cs[k]? = some x) : (0 ≤ x.k ∧ x.k < 256) ∧ x.n ≤ 224 := rightC_key cs lzeros h k x hx
theorem lhas_behL (th : List Bool) (P : Int → Option CE) (M : List UInt8) (hM : M.length = 32) (cs : List CV) (ls : List (List UInt8)) (hm : ∀ z, lhas M z = liveP th P z) (hr : ∀ (k : Nat) (x : CV), cs[k]? = some x → 0 ≤ x.k ∧ x.k < 256) :
    ∀ k, k ≤ cs.length → ∀ z, lhas (behL M (cs.take k)) z = liveP th (putTo P cs ls k) z
  | 0, _, z => by rw [List.take_zero]; exact hm z
  | k + 1, hk, z => by
    obtain ⟨x, hx⟩ : ∃ x, cs[k]? = some x := ⟨_, List.getElem?_eq_getElem hk⟩
    have hx2 := hr k x hx
    rw [behL_take M hx, lhas_lput (by rw [behL_length]; exact hM), lhas_behL th P M hM cs ls hm hr k (by omega) z]
    show _ = liveP th (putP (putTo P cs ls k) (cs.getD k _).k (cs.getD k _).g (ls.getD k [])) z
    rw [List.getD_eq_getElem?_getD, hx, Option.getD_some]
    unfold liveP putP
    by_cases e : z = x.k
    · rw [if_pos ⟨e, hx2⟩, if_pos e]
    · rw [if_neg (fun h => e h.1), if_neg e]
def noSpace (i : CI) (P : Int → Option CE) (cs : List CV) (ls : List (List UInt8)) : Prop := i.mo < (cntP (behP i.th P cs ls) : Int) ∧ cntP (liveP i.th P) < cntP (behP i.th P cs ls)
/-- Put, in its three ways -/
theorem put_cat (i : CI) (N : Nat) (P : Int → Option CE) (S : Nat → Prop) (v : Value) (cs : List CV) (ls : List (List UInt8)) (w : World) (h : CAt w i N P S) (hc : Chs w w.heap.size v cs) (hl : BodL w w.heap.size cs ls) (hz : cs.length ≤ 1000) (hN : N ≤ 1000000) :
    Calls Try.prog 19 #[.pointer (some ⟨i.q, 0, none⟩), v] w fun e w' =>
      (rightC lzeros cs = false ∧ e = .returned (.int .i64 1) ∧ Below w.heap.size w w') ∨
      (rightC lzeros cs = true ∧ noSpace i P cs ls ∧ e = .returned (.int .i64 40) ∧ Below w.heap.size w w') ∨
      (rightC lzeros cs = true ∧ ¬ noSpace i P cs ls ∧ e = .returned (.int .i64 0) ∧ w.grownBy w' (some i.m) ∧ CAt w' i (N + cs.length) (putTo P cs ls cs.length) (fun b => S b ∨ (w.heap.size ≤ b ∧ b < w'.heap.size))) := by
  obtain ⟨a1, a2, a3, N0, D, f, a4, a5, a6, a7⟩ := id h
  refine (put_any i.q i.m i.s N0 f D S P i.bs i.th i.mo v cs ls w a1 a2 a5 a6 a7 (fun b hb => (a3 b hb).1) hc hl hz (by omega)).mono ?_
  rintro e w' (⟨h1, h2, h3⟩ | ⟨h1, M, hM, hm, h2⟩)
  · exact .inl ⟨h1, h2, h3⟩
  · have hm' : ∀ z, lhas M z = liveP i.th P z := fun z => by rw [hm z, liveF_liveP i.th a7]
    have hb := lhas_behL i.th P M hM cs ls hm' (fun k x hx => (rightC_keys h1 hx).1) cs.length (Nat.le_refl _)
    rw [List.take_of_length_le (Nat.le_refl _)] at hb
    have e1 : cntL M = cntP (liveP i.th P) := cntL_cntP hm'
    have e2 : cntL (behL M cs) = cntP (behP i.th P cs ls) := cntL_cntP hb
    rw [e1, e2] at h2
    rcases h2 with ⟨b1, b2, b3⟩ | ⟨b1, b2, b3, f2, D2, b4, b5, b6⟩
    · exact .inr (.inl ⟨h1, b1, b2, b3⟩)
    · obtain ⟨c1, c2, c3, c4, c5⟩ := h.lt
      refine .inr (.inr ⟨h1, b1, b2, b3, Blk.grown a1 b3 (by simp only [ne_eq, Option.some.injEq]; exact c4), a2.grown b3 (by simp only [ne_eq, Option.some.injEq]; exact c5), fun b hb => ?_, N0 + cs.length, D2, f2, by omega, b4, b5, fun z => ⟨(b6 z).1, fun x e hx he => (bytesS_cut ((b6 z).2 x e hx he)).more (fun b hb => ?_)⟩⟩)
      · rcases hb with hb | hb
        · exact ⟨(a3 b hb).1, Nat.lt_of_lt_of_le (a3 b hb).2 b3.size⟩
        · exact ⟨by omega, hb.2⟩
      · rcases hb.1 with h5 | h5
        · exact .inl h5
        · exact .inr ⟨h5, hb.2⟩
/-- Live -/
theorem live_cat (i : CI) (N : Nat) (P : Int → Option CE) (S : Nat → Prop) (w : World) (h : CAt w i N P S) :
    Calls Try.prog 23 #[.pointer (some ⟨i.q, 0, none⟩)] w fun e w' => ∃ M, M.length = 32 ∧ e = .returned (.agg (cl M)) ∧ (∀ z, lhas M z = liveP i.th P z) ∧ Below w.heap.size w w' := by
  obtain ⟨a1, a2, a3, N0, D, f, a4, a5, a6, a7⟩ := id h
  refine (clive_any i.q i.m i.s N0 f D i.bs i.th i.mo w a1 a2 a5 a6).mono ?_
  rintro e w' ⟨M, h1, h2, h3, h4⟩
  exact ⟨M, h1, h2, fun z => by rw [h3 z]; exact liveF_liveP i.th a7 z, h4⟩
end Go.Proofs.Ytppodbijdhcclaa


/- Several texts of the proof, joined: what each has is said at its head. -/
import Derived.Test.YtppodbijdhcclaaQCacheJC
import Derived.Test.YtppodbijdhcclaaQConv
import Derived.Test.YtppodbijdhcclaaQCore
import Derived.Test.YtppodbijdhcclaaQOpenAgg
import Derived.Deep.Slices
import Derived.Deep.Fields
import Derived.ChangeSame
import Derived.Laws.AppendOwn
import Derived.Laws.OwnMore
import Derived.Deep.DeepCutAuto
/- Node of the law's source, and Get of a cache, of any key. No condition. -/
namespace Go.Proofs.Ytppodbijdhcclaa
open Go Go.RowKit Go.Maps
set_option maxRecDepth 100000 in
set_option maxHeartbeats 4000000 in
theorem node_yes (s : Nat) (bs : List ByteArray) (th : List Bool) (mo : Int) (k : Nat) (w : World) (hs : Src w s bs th mo) (hk : k < 256) (ht : th.getD k false = true) (hb : (bs.getD k ByteArray.empty).size ≤ 100000) :
    Calls Try.prog 124 #[.pointer (some ⟨s, 0, none⟩), .int .i64 (k : Int)] w fun e w' => ∃ n, Hid ((bs.getD k ByteArray.empty).size = n) ∧ ∃ A c, e = .returned (.tuple #[.slice A n c, .int .i64 0]) ∧ Bytes w' w'.heap.size (.slice A n c) (bs.getD k ByteArray.empty).data.toList ∧ Below w.heap.size w w' := by
  have c1 := hs.there hk
  rw [ht] at c1
  have c2 := hs.body hk
  obtain ⟨b, hB⟩ : ∃ b, b = bs.getD k ByteArray.empty := ⟨_, rfl⟩
  rw [← hB] at hb c2 ⊢
  have d1 : decide ((k : Int) < 0) = false := by simp
  have d2 : decide ((255 : Int) < (k : Int)) = false := by simp; omega
  have d3 : (k : Int) < 256 := by omega
  have d4 : ¬ 256 ≤ k := by omega
  have d5 : ¬ (256 : Int) ≤ (k : Int) := by omega
  obtain ⟨c, X, hrun, h1, h2⟩ := conv_any b (by omega) w
  have HX := Lib.hid (And.intro h1 h2)
  obtain ⟨n, hn⟩ : ∃ n, b.size = n := ⟨_, rfl⟩
  have HN := Lib.hid hn
  rw [hn] at hrun HX
  clear hs ht hB h1 h2 hn hb
  go_enter Try.func124, Try.ntmps124
  go_wp2_with fail
  go_ret2
  exact ⟨n, HN, _, c, rfl, HX.out.2.bytes (fun b h => h.2), HX.out.1⟩
set_option maxRecDepth 100000 in
set_option maxHeartbeats 4000000 in
theorem node_no (s : Nat) (bs : List ByteArray) (th : List Bool) (mo : Int) (k : Int) (w : World) (hs : Src w s bs th mo) (hk : (decide (0 ≤ k ∧ k < 256) && th.getD k.toNat false) = false) :
    Calls Try.prog 124 #[.pointer (some ⟨s, 0, none⟩), .int .i64 k] w fun e w' => e = .returned (.tuple #[.slice none 0 0, .int .i64 61]) ∧ Below w.heap.size w w' := by
  by_cases h0 : k < 0
  · have d1 : decide (k < 0) = true := decide_eq_true h0
    clear hk hs
    go_enter Try.func124, Try.ntmps124
    go_wp2_with fail
    go_ret2
    exact ⟨rfl, Below.refl _ _⟩
  · have d1 : decide (k < 0) = false := decide_eq_false h0
    by_cases h1 : 255 < k
    · have d2 : decide (255 < k) = true := decide_eq_true h1
      clear hk hs
      go_enter Try.func124, Try.ntmps124
      go_wp2_with fail
      go_ret2
      exact ⟨rfl, Below.refl _ _⟩
    · have d2 : decide (255 < k) = false := decide_eq_false h1
      obtain ⟨j, rfl⟩ : ∃ j : Nat, k = (j : Int) := ⟨k.toNat, by omega⟩
      rw [decide_eq_true (by omega), Bool.true_and, Int.toNat_natCast] at hk
      have c1 := hs.there (k := j) (by omega)
      rw [hk] at c1
      have d3 : (j : Int) < 256 := by omega
      have d4 : ¬ 256 ≤ j := by omega
      have d5 : ¬ (256 : Int) ≤ (j : Int) := by omega
      clear hk hs
      go_enter Try.func124, Try.ntmps124
      go_wp2_with fail
      go_ret2
      exact ⟨rfl, Below.refl _ _⟩
theorem meth_node (n : Nat) (a : Addr) (w : World) : (method (n + 1) 26 (.pointer (some a)) "Node").run Try.prog w = .ok (124, .pointer (some a)) w := by kernel_rfl
/-- a node's bytes, plainly -/
def getB (bs : List ByteArray) (th : List Bool) (P : Int → Option CE) (z : Int) : Option (List UInt8) := match P z with
  | some e => if e.gone then none else some e.body
  | none => if (decide (0 ≤ z ∧ z < 256) && th.getD z.toNat false) = true then some (bs.getD z.toNat ByteArray.empty).data.toList else none
def CI.get (i : CI) (P : Int → Option CE) (z : Int) : Option (List UInt8) := getB i.bs i.th P z
theorem get_live (i : CI) (P : Int → Option CE) (z : Int) : (i.get P z).isSome = liveP i.th P z := by
  unfold CI.get getB liveP
  cases P z with
  | none => dsimp only; split <;> simp_all
  | some e => dsimp only; cases e.gone <;> rfl
/-- what Get answers -/
def GetC (w : World) (o : Option (List UInt8)) (e : Ending) (w' : World) : Prop := Below w.heap.size w w' ∧ match o with
  | none => e = .returned (.tuple #[.slice none 0 0, .int .i64 61])
  | some l => ∃ A c, e = .returned (.tuple #[.slice A l.length c, .int .i64 0]) ∧ Own 5 w' w.heap.size (.slice A l.length c) l
set_option maxRecDepth 100000 in
set_option maxHeartbeats 4000000 in
/-- a node that wasn't changed, and is there -/
theorem get_old (q m s N : Nat) (f : Int → Option CV) (D : DataW Value) (bs : List ByteArray) (th : List Bool) (mo : Int) (k : Nat) (w : World) (hq : Cc w q m s) (hm : w.ownsMap Try.prog 3 chR m N D) (hf : MpD D f) (hx : f (k : Int) = none) (hs : Src w s bs th mo) (hk : k < 256) (ht : th.getD k false = true) (hb : (bs.getD k ByteArray.empty).size ≤ 100000) :
    Calls Try.prog 22 #[.pointer (some ⟨q, 0, none⟩), .int .i64 (k : Int)] w fun e w' => GetC w (some (bs.getD k ByteArray.empty).data.toList) e w' := by
  have q1 : w.cell? ⟨q, 1, none⟩ = some (.map (some m)) := Blk.cell hq 1
  have hrun := look_none hm hf (wfC ⟨by omega, by omega⟩) hx
  have B0 := Lib.hid ((Below.refl w.heap.size w).alloc (Nat.le_refl _) (.cells #[.int .i64 0, .bool false, .slice none 0 0] 46))
  have q0 := Blk.cell (Blk.after hq B0.out) 0
  simp only [List.getElem?_cons_zero] at q0
  have ml := meth_node
  have KN := Lib.hid (node_yes s bs th mo k _ (hs.after B0.out) hk ht hb)
  have HBS := Lib.hid hb
  obtain ⟨l, hl⟩ : ∃ l, l = (bs.getD k ByteArray.empty).data.toList := ⟨_, rfl⟩
  have HSZ : Hid ((bs.getD k ByteArray.empty).size = l.length) := Lib.hid (by rw [hl, ← Lib.size_eq])
  rw [← hl] at KN ⊢
  clear hq hm hf hx hs ht hb hl
  go_enter Try.func22, Try.ntmps22
  go_upto_region 7 with ((with_reducible refine KN.out.mono ?_); rintro e w2 ⟨n, hn, A2, c2, rfl, hb2, b2⟩; have HB2 := Lib.hid hb2; have H2 := Lib.hid (B0.out.trans (b2.mono B0.out.size)); have HLN : Hid (l.length = n) := Lib.hid (by rw [← HSZ.out]; exact hn.out); clear KN b2 hb2 hn ml q0)
  have KC := Lib.hid (bclone_any (.slice A2 n c2) l w2 HB2.out (by have := HBS.out; rw [← HSZ.out]; omega))
  rw [HLN.out] at KC
  go_wp2_with ((with_reducible refine KC.out.mono ?_); rintro e w3 ⟨A3, c3, rfl, O3, b3⟩; have HO := Lib.hid O3; have HB := Lib.hid b3; clear KC O3 b3)
  go_ret2
  exact ⟨H2.out.trans (HB.out.mono H2.out.size), A3, c3, by rw [HLN.out]; rfl, by rw [HLN.out]; exact HO.out.lower H2.out.size⟩
set_option maxRecDepth 100000 in
set_option maxHeartbeats 4000000 in
/-- a node that wasn't changed, and isn't there -/
theorem get_gone (q m s N : Nat) (f : Int → Option CV) (D : DataW Value) (bs : List ByteArray) (th : List Bool) (mo : Int) (k : Int) (w : World) (hq : Cc w q m s) (hm : w.ownsMap Try.prog 3 chR m N D) (hf : MpD D f) (hwf : (Lit.int .i64 k).wf = true) (hx : f k = none) (hs : Src w s bs th mo) (hk : (decide (0 ≤ k ∧ k < 256) && th.getD k.toNat false) = false) :
    Calls Try.prog 22 #[.pointer (some ⟨q, 0, none⟩), .int .i64 k] w fun e w' => GetC w none e w' := by
  have q1 : w.cell? ⟨q, 1, none⟩ = some (.map (some m)) := Blk.cell hq 1
  have hrun := look_none hm hf hwf hx
  have B0 := Lib.hid ((Below.refl w.heap.size w).alloc (Nat.le_refl _) (.cells #[.int .i64 0, .bool false, .slice none 0 0] 46))
  have q0 := Blk.cell (Blk.after hq B0.out) 0
  simp only [List.getElem?_cons_zero] at q0
  have ml := meth_node
  have KN := Lib.hid (node_no s bs th mo k _ (hs.after B0.out) hk)
  clear hq hm hf hx hs hwf hk
  go_enter Try.func22, Try.ntmps22
  go_wp2_with ((with_reducible refine KN.out.mono ?_); rintro e w2 ⟨rfl, b2⟩; have H2 := Lib.hid (B0.out.trans (b2.mono B0.out.size)); clear KN b2 ml q0)
  go_ret2
  exact ⟨H2.out, rfl⟩
/-- the source's bodies are no longer than that -/
def CI.small (i : CI) : Prop := ∀ k, (i.bs.getD k ByteArray.empty).size ≤ 100000
/-- Get of any key -/
theorem get_cat (i : CI) (N : Nat) (P : Int → Option CE) (S : Nat → Prop) (k : Int) (w : World) (h : CAt w i N P S) (hsm : i.small) (hP : ∀ z e, P z = some e → e.body.length ≤ 100000) (hwf : (Lit.int .i64 k).wf = true) :
    Calls Try.prog 22 #[.pointer (some ⟨i.q, 0, none⟩), .int .i64 k] w fun e w' => GetC w (i.get P k) e w' := by
  obtain ⟨a1, a2, a3, N0, D, f, a4, a5, a6, a7⟩ := id h
  have h7 := a7 k
  cases hf : f k with
  | none =>
    rw [hf] at h7
    have hp : P k = none := by
      cases hp : P k with
      | none => rfl
      | some e => rw [hp] at h7; cases h7.1
    unfold CI.get getB
    rw [hp]
    dsimp only
    by_cases hk : (decide (0 ≤ k ∧ k < 256) && i.th.getD k.toNat false) = true
    · rw [if_pos hk]
      have hk2 := hk
      rw [Bool.and_eq_true] at hk2
      have hk3 := of_decide_eq_true hk2.1
      obtain ⟨j, rfl⟩ : ∃ j : Nat, k = (j : Int) := ⟨k.toNat, by omega⟩
      rw [Int.toNat_natCast] at hk2 ⊢
      exact get_old i.q i.m i.s N0 f D i.bs i.th i.mo j w a1 a5 a6 hf a2 (by omega) hk2.2 (hsm j)
    · rw [if_neg hk]
      exact get_gone i.q i.m i.s N0 f D i.bs i.th i.mo k w a1 a5 a6 hwf hf a2 (by simpa using hk)
  | some x =>
    cases hp : P k with
    | none => rw [hf, hp] at h7; cases h7.1
    | some e =>
      have hb := h7.2 x e hf hp
      have hg : x.g = e.gone := by
        have := h7.1
        rw [hf, hp] at this
        simpa using this
      refine (get_own i.q i.m i.s N0 f D k x e.body w a1 a5 a6 hf (hb.bytes (fun b hS => (a3 b hS).2)) (hP k e hp)).mono ?_
      rintro en w' ⟨b1, b2⟩
      unfold CI.get getB
      rw [hp]
      dsimp only
      rw [hg] at b2
      refine ⟨b1, ?_⟩
      cases hgg : e.gone with
      | true => rw [hgg] at b2; simpa using b2
      | false => rw [hgg] at b2; simpa using b2
end Go.Proofs.Ytppodbijdhcclaa

/- The arguments that are changes, or lists of changes: what they read as. No condition. -/
namespace Go.Proofs.Ytppodbijdhcclaa
open Go.RowKit Go.ChangeShapes Go.WideShapes Go.ChangeAt
instance : Inhabited CV := ⟨⟨0, false, none, 0, 0⟩⟩
/-- v is a slice of changes: cs as they lie, ls their bodies -/
structure ChL (w : World) (B : Nat) (v : Value) (cs : List CV) (ls : List (List UInt8)) : Prop where
  rows : Chs w B v cs
  bods : BodL w B cs ls
  keys : ∀ c ∈ cs, (Lit.int .i64 c.k).wf = true
theorem ChL.keep {w w' : World} {B : Nat} {v : Value} {cs : List CV} {ls : List (List UInt8)} (h : ChL w B v cs ls) (hk : ∀ p : Addr, p.block < B → w'.cell? p = w.cell? p) : ChL w' B v cs ls := by
  obtain ⟨⟨A, c, h1, h2, h3, h4⟩, h5, h6⟩ := h
  exact ⟨⟨A, c, h1, h2, h3, h4.keep hk⟩, ⟨h5.1, fun i x hx => (h5.2 i x hx).keep hk⟩, h6⟩
theorem ChL.below {w w' : World} {B : Nat} {v : Value} {cs : List CV} {ls : List (List UInt8)} (h : ChL w B v cs ls) (hb : Below B w w') : ChL w' B v cs ls := h.keep fun _ hp => hb.cell hp
theorem ChL.more {w : World} {B B' : Nat} {v : Value} {cs : List CV} {ls : List (List UInt8)} (h : ChL w B v cs ls) (hB : B ≤ B') : ChL w B' v cs ls := by
  obtain ⟨⟨A, c, h1, h2, h3, h4⟩, h5, h6⟩ := h
  exact ⟨⟨A, c, h1, h2, h3, h4.more hB⟩, ⟨h5.1, fun i x hx => (h5.2 i x hx).more hB⟩, h6⟩
/-- v is a slice of slices of changes -/
def Chss (w : World) (B : Nat) (v : Value) (xs : List (List CV × List (List UInt8))) : Prop :=
  ∃ A c vs, v = .slice A vs.length c ∧ vs.length ≤ maxLen ∧ vs.length = xs.length ∧ Row w B A vs ∧ ∀ (i : Nat) (u : Value), vs[i]? = some u → ∃ x, xs[i]? = some x ∧ ChL w B u x.1 x.2
theorem Chss.below {w w' : World} {B : Nat} {v : Value} {xs : List (List CV × List (List UInt8))} (h : Chss w B v xs) (hb : Below B w w') : Chss w' B v xs := by
  obtain ⟨A, c, vs, h1, h2, h3, h4, h5⟩ := h
  exact ⟨A, c, vs, h1, h2, h3, h4.below hb, fun i u hu => by obtain ⟨x, hx, hl⟩ := h5 i u hu; exact ⟨x, hx, hl.below hb⟩⟩
section
variable {H : Type} {enc : TypeId × Value → H} {w : World} {r : Reach} {base b0 : Nat} {spare : Nat → Bool} {held : Bool} {v : Value} {d : DataW H} {ps : List MemPlace}
theorem chs_of_trod {fuel : Nat} {u : Value} {x : DataW H × List MemPlace} (h : DataW.trod enc Try.prog w base spare held fuel 22 [u] = some x) : ∃ cs ls, ChL w w.heap.size u cs ls := by
  rcases open_agg_slice Try.underlying22 Try.underlying46 (by kernel_rfl) (by kernel_rfl) h with hcs | ⟨a', len', cap', m, hcs, hl, hm, hlm, hel⟩
  · simp only [List.cons.injEq, and_true] at hcs
    rw [hcs]
    exact ⟨[], [], ⟨none, 0, rfl, Nat.le_refl _, by simp [maxLen], Row.nil⟩, ⟨rfl, fun i x h => by simp at h⟩, fun c h => by simp at h⟩
  · simp only [List.cons.injEq, and_true] at hcs
    subst hcs
    have each : ∀ i, i < len' → ∃ o : CV × List UInt8, a'.block < w.heap.size ∧ (∀ j u, (crow o.1)[j]? = some u → w.cell? (a'.add (i * 3 + j)) = some u) ∧ Bytes w w.heap.size (.slice o.1.A o.1.n o.1.c) o.2 ∧ (Lit.int .i64 o.1.k).wf = true := by
      intro i hi
      obtain ⟨n, hn⟩ := hel i (by omega)
      obtain ⟨v0, y0, c0, t0⟩ := hn 0 _ rfl
      obtain ⟨v1, y1, c1, t1⟩ := hn 1 _ rfl
      obtain ⟨v2, y2, c2, t2⟩ := hn 2 _ rfl
      obtain ⟨z0, e0, _, w0⟩ := DataW.trod_int Try.underlying3 t0
      obtain ⟨z1, e1, _⟩ := DataW.trod_bool Try.underlying4 t1
      obtain ⟨l, hl⟩ := bytes_nums (nums_cells Try.underlying44 Try.underlying5 (by kernel_rfl) t2)
      obtain rfl : v0 = _ := List.head_eq_of_cons_eq e0
      obtain rfl : v1 = _ := List.head_eq_of_cons_eq e1
      obtain ⟨A, c, rfl, hc1, hc2, hr⟩ := id hl
      refine ⟨(⟨z0, z1, A, l.length, c⟩, l), ?_, ?_, hl, w0⟩
      · have := World.block_lt_of_cell? w _ c0
        rwa [add_block] at this
      · intro j u hu
        match j, hu with
        | 0, hu => cases hu; exact c0
        | 1, hu => cases hu; exact c1
        | 2, hu => cases hu; exact c2
        | j + 3, hu => exact absurd hu (by simp [crow])
    obtain ⟨f, hfb⟩ := Deep.choose_lt (α := CV × List UInt8) (n := len') (p := fun i o => a'.block < w.heap.size ∧ (∀ j u, (crow o.1)[j]? = some u → w.cell? (a'.add (i * 3 + j)) = some u) ∧ Bytes w w.heap.size (.slice o.1.A o.1.n o.1.c) o.2 ∧ (Lit.int .i64 o.1.k).wf = true) each
    have hcl : ∀ cs : List CV, (cs.flatMap crow).length = 3 * cs.length := by
      intro cs
      induction cs with
      | nil => rfl
      | cons x xs ih => rw [List.flatMap_cons, List.length_append, crow_len, ih, List.length_cons]; omega
    refine ⟨(List.range len').map (fun i => (f i).1), (List.range len').map (fun i => (f i).2), ⟨some a', cap', by simp, by simpa using hl, hm, ?_⟩, ⟨by simp, ?_⟩, ?_⟩
    · intro j u hu
      have hj := get_lt hu
      rw [hcl, List.length_map, List.length_range] at hj
      have hi : j / 3 < len' := by omega
      obtain ⟨hb, hc, _⟩ := hfb (j / 3) hi
      have hget : ((List.range len').map (fun i => (f i).1))[j / 3]? = some (f (j / 3)).1 := by simp [hi]
      have hr : (crow (f (j / 3)).1)[j % 3]? = some u := by
        have hlt : j % 3 < (crow (f (j / 3)).1).length := by show _ < 3; omega
        have h1 := crows_get _ (j / 3) (j % 3) (f (j / 3)).1 ((crow (f (j / 3)).1)[j % 3]'hlt) hget (List.getElem?_eq_getElem hlt)
        rw [show j / 3 * 3 + j % 3 = j by omega, hu] at h1
        rw [List.getElem?_eq_getElem hlt]
        exact h1.symm
      have h2 := hc (j % 3) u hr
      rw [show j / 3 * 3 + j % 3 = j by omega] at h2
      exact ⟨a', rfl, hb, h2⟩
    · intro i x hx
      have hi : i < len' := by have := get_lt hx; simpa using this
      obtain ⟨_, _, hb, _⟩ := hfb i hi
      have e1 : (f i).1 = x := by simpa [hi] using hx
      rw [← e1]
      have e2 : ((List.range len').map (fun i => (f i).2)).getD i [] = (f i).2 := by simp [List.getD_eq_getElem?_getD, hi]
      rw [e2]
      exact hb
    · intro c hc
      obtain ⟨i, hi, rfl⟩ := List.mem_map.1 hc
      exact (hfb i (by simpa using hi)).2.2.2
set_option maxRecDepth 100000 in
theorem open_chs (hval : Value.okWide Try.prog w r b0 22 v) (h : DataW.Trod enc Try.prog w base spare held 22 v d ps) : ∃ cs ls, ChL w w.heap.size v cs ls := by
  obtain ⟨a, len, cap, rfl⟩ := okWide_slice Try.underlying22 hval
  obtain ⟨fuel, hf⟩ := h
  exact chs_of_trod (u := .slice a len cap) hf
theorem chL_wid {B : Nat} {v : Value} {cs : List CV} {ls : List (List UInt8)} (h : ChL w B v cs ls) : ∃ A c, v = .slice A cs.length c ∧ cs.length ≤ c ∧ c ≤ maxLen := by
  obtain ⟨⟨A, c, e, h1, h2, _⟩, _⟩ := h
  exact ⟨A, c, e, h1, h2⟩
end
end Go.Proofs.Ytppodbijdhcclaa

/- Appending to a row of structs of the call's own, whatever the struct: what is left, and where the row lies. No condition. -/
namespace Go.Proofs.Ytppodbijdhcclaa
open Go Go.RowKit
/-- e is a struct type of so many cells of one value each, t its slices -/
structure RowTy (P : Program) (t e : TypeId) (size bytes : Nat) : Prop where
  ht : P.underlying t = some (.slice e)
  hi : ∃ ti z, P.info? e = some ti ∧ ti.zero = some z ∧ z.cells.size = size ∧ ti.size = size ∧ ti.bytes = bytes
theorem RowTy.mk' {P : Program} {t e : TypeId} {z : Value} {size bytes : Nat} (ht : P.underlying t = some (.slice e)) (h : (P.info? e).map (fun i => (i.zero, i.size, i.bytes)) = some (some z, size, bytes)) (hz : z.cells.size = size) : RowTy P t e size bytes := by
  obtain ⟨i, a, b, c, d⟩ := info_parts h
  exact ⟨ht, i, z, a, b, hz, c, d⟩
theorem ownsRow_some {w : World} {base : Nat} {e : TypeId} {size : Nat} {v : Value} {n : Nat} {xs : List Value} (h : w.ownsRow base e size v n xs) : ∃ A c, v = .slice A n c := by
  rcases h.2 with ⟨rfl, h0⟩ | ⟨g, cap, cur, rfl, _⟩
  · exact ⟨none, 0, by rw [h0]⟩
  · exact ⟨_, _, rfl⟩
theorem app_block {P : Program} {w : World} (base : Nat) (t ty e : TypeId) (i : TypeInfo) (z : Value) (size bytes : Nat) (ht : P.underlying t = some (.slice e)) (hi : P.info? e = some i) (hz : i.zero = some z)
    (hsize : i.size = size) (hby : i.bytes = bytes) (v : Value) (n : Nat) (xs : List Value) (hown : w.ownsRow base e size v n xs)
    (a : Addr) (m c : Nat) (news : List Value) (hl : news.length = m * size) (hnews : ∀ j u, news[j]? = some u → w.cell? (a.add j) = some u) (h1 : ∀ u ∈ news, u.oneCell' = true)
    (h63 : n + m ≤ 100000) (hbytes : (n + m) * bytes ≤ 140737488355328) (hm : 0 < m) (hs : 0 < size) {v' : Value} {w' : World} (hr : (Builtin.append_ #[t, t] ty #[v, .slice (some a) m c]).run P w = .ok v' w') :
    v'.ownBlock = v.ownBlock ∨ v'.ownBlock = some w.heap.size := by
  subst hsize
  subst hby
  rcases hown.2 with ⟨rfl, rfl⟩ | ⟨g, cap, cur, rfl, hbg, hg, hnc, hcm, hcs, htake⟩
  · have h := run_append_nil (P := P) w t ty e i z ht hi hz a m c news hl hnews (by omega) (by omega) (by have hb := hbytes; simp only [Nat.zero_add] at hb; omega)
    rw [h] at hr
    cases hr
    exact .inr rfl
  · by_cases hroom : n + m ≤ cap
    · have hfit : n * i.size + news.length ≤ cur.size := by rw [hl, hcs, ← Nat.add_mul]; exact Nat.mul_le_mul_right _ hroom
      have h := run_append_room (P := P) w t ty e i ht hi g n cap cur hg a m c news hl hnews h1 hroom hfit
      rw [h] at hr
      cases hr
      exact .inl rfl
    · have holds : ∀ j u, xs[j]? = some u → w.cell? ((⟨g, 0, none⟩ : Addr).add j) = some u := hown.cells (g := g) rfl
      have h := run_append_grow (P := P) w t ty e i z ht hi hz ⟨g, 0, none⟩ n cap xs hown.1 holds a m c news hl hnews (by omega) (by omega) (growslice_fits (by omega) hbytes)
      rw [h] at hr
      cases hr
      exact .inr rfl
section
variable {P : Program} {t e : TypeId} {size bytes : Nat} {w : World} {base : Nat} {v : Value} {n : Nat} {xs : List Value}
theorem run_app_row (hT : RowTy P t e size bytes) (hsz : 0 < size) (ty : TypeId) (hown : w.ownsRow base e size v n xs) (ad : Addr) (m c : Nat) (news : List Value) (hl : news.length = m * size) (hm : 0 < m) (B : Nat) (hr : Row w B (some ad) news)
    (h1 : ∀ u ∈ news, u.oneCell' = true) (hnm : n + m ≤ 100000) (hb : bytes ≤ 100000) (hbase : base ≤ w.heap.size) :
    ∃ A' c' w', (Builtin.append_ #[t, t] ty #[v, .slice (some ad) m c]).run P w = .ok (.slice A' (n + m) c') w' ∧ w'.ownsRow base e size (.slice A' (n + m) c') (n + m) (xs ++ news) ∧ w.grownBy w' v.ownBlock ∧ ((Value.slice A' (n + m) c').ownBlock = v.ownBlock ∨ (Value.slice A' (n + m) c').ownBlock = some w.heap.size) := by
  obtain ⟨ti, z, hi, hz, hzc, hs, hby⟩ := hT.hi
  have hcell : ∀ j u, news[j]? = some u → w.cell? (ad.add j) = some u := fun j u hu => by obtain ⟨a', e, _, hc⟩ := hr j u hu; cases e; exact hc
  have hbb : (n + m) * bytes ≤ 140737488355328 := Nat.le_trans (Nat.mul_le_mul hnm hb) (by decide)
  obtain ⟨v', w', hrun, h2, h3, _⟩ := run_append_own (P := P) w base t ty e ti z size bytes hT.ht hi hz hs hby hzc hsz v n xs hown ad m c news hl hcell h1 (by simp only [maxLen]; omega) hbb hbase
  have hbk := app_block (P := P) base t ty e ti z size bytes hT.ht hi hz hs hby v n xs hown ad m c news hl hcell h1 hnm hbb hm hsz hrun
  obtain ⟨A', c', rfl⟩ := ownsRow_some h2
  exact ⟨A', c', w', hrun, h2, h3, hbk⟩
theorem wpl_app_row {ops : Array Oper} {rest : List Oper} {o : Oper} {a : Act} {Q : Exit → Act → World → Prop} (hT : RowTy P t e size bytes) (hsz : 0 < size) (hgd : Region.wanted o (yielded ops a.tmps) = true) (s x : Operand)
    (ho : o.op = .call { callee := .builtin .append, args := #[s, x], argTypes := #[t, t] })
    (hv : a.eval s = v) (hown : w.ownsRow base e size v n xs) (ad : Addr) (m c : Nat) (news : List Value) (hl : news.length = m * size) (hm : 0 < m) (hx : a.eval x = .slice (some ad) m c) (B : Nat) (hr : Row w B (some ad) news)
    (h1 : ∀ u ∈ news, u.oneCell' = true) (hnm : n + m ≤ 100000) (hb : bytes ≤ 100000) (hbase : base ≤ w.heap.size) (k : Nat) (hk : n + m = k)
    (h : ∀ A' c' w', w'.ownsRow base e size (.slice A' k c') k (xs ++ news) → w.grownBy w' v.ownBlock → ((Value.slice A' k c').ownBlock = v.ownBlock ∨ (Value.slice A' k c').ownBlock = some w.heap.size) → wpList P ops Q rest (a.put o.dst (.slice A' k c')) w') :
    wpList P ops Q (o :: rest) a w := by
  subst hk
  obtain ⟨A', c', w', hrun, h2, h3, h4⟩ := run_app_row hT hsz o.type hown ad m c news hl hm B hr h1 hnm hb hbase
  refine BigFrame.wpList_want hgd fun K hK => ?_
  unfold Oper.wp execOp
  simp only [ho, resolve, invoke, builtin, Sem.run_bind, Sem.run_pure, Result.andThen_ok, List.map_toArray, List.map_cons, List.map_nil, hv, hx, hrun]
  exact hK _ _ (h A' c' w' h2 h3 h4)
theorem step_app_row {ops : Array Oper} {o : Oper} {a : Act} {K : Act → World → Prop} {Q : Exit → Act → World → Prop} {E : Prop} (hT : RowTy P t e size bytes) (hsz : 0 < size) (hgd : Region.wanted o (yielded ops a.tmps) = true) (s x : Operand)
    (ho : o.op = .call { callee := .builtin .append, args := #[s, x], argTypes := #[t, t] })
    (hv : a.eval s = v) (hown : w.ownsRow base e size v n xs) (ad : Addr) (m c : Nat) (news : List Value) (hl : news.length = m * size) (hm : 0 < m) (hx : a.eval x = .slice (some ad) m c) (B : Nat) (hr : Row w B (some ad) news)
    (h1 : ∀ u ∈ news, u.oneCell' = true) (hnm : n + m ≤ 100000) (hb : bytes ≤ 100000) (hbase : base ≤ w.heap.size) (k : Nat) (hk : n + m = k)
    (h : ∀ A' c' w', w'.ownsRow base e size (.slice A' k c') k (xs ++ news) → w.grownBy w' v.ownBlock → ((Value.slice A' k c').ownBlock = v.ownBlock ∨ (Value.slice A' k c').ownBlock = some w.heap.size) → K (a.put o.dst (.slice A' k c')) w') :
    if Region.wanted o (yielded ops a.tmps) = true then Oper.wp P o a w K Q else E := by
  rw [if_pos hgd]
  subst hk
  obtain ⟨A', c', w', hrun, h2, h3, h4⟩ := run_app_row hT hsz o.type hown ad m c news hl hm B hr h1 hnm hb hbase
  unfold Oper.wp execOp
  simp only [ho, resolve, invoke, builtin, Sem.run_bind, Sem.run_pure, Result.andThen_ok, List.map_toArray, List.map_cons, List.map_nil, hv, hx, hrun]
  exact h A' c' w' h2 h3 h4
end
end Go.Proofs.Ytppodbijdhcclaa

/- Changes in memory of a call's own; the laws' great and copied. No condition. -/
namespace Go.Proofs.Ytppodbijdhcclaa
open Go Go.RowKit
theorem rowC : RowTy Try.prog 22 46 3 40 := RowTy.mk' (z := .agg #[.int .i64 0, .bool false, .slice none 0 0]) Try.underlying22 (by kernel_rfl) rfl
theorem crow_one (x : CV) : ∀ u ∈ crow x, u.oneCell' = true := by
  intro u hu
  simp only [crow, List.mem_cons, List.not_mem_nil, or_false] at hu
  rcases hu with rfl | rfl | rfl <;> rfl
theorem crows_length (cs : List CV) : (cs.flatMap crow).length = cs.length * 3 := by
  induction cs with
  | nil => rfl
  | cons x xs ih => rw [List.flatMap_cons, List.length_append, crow_len, ih, List.length_cons]; omega
/-- changes in a row, and bodies, of a call's own: all of it above base -/
structure ChOwn (w : World) (base : Nat) (v : Value) (cs : List CV) (ls : List (List UInt8)) : Prop where
  row : w.ownsRow base 46 3 v cs.length (cs.flatMap crow)
  len : cs.length = ls.length
  bods : ∀ (i : Nat) (x : CV), cs[i]? = some x → BytesS w (fun b => base ≤ b ∧ b < w.heap.size ∧ v.ownBlock ≠ some b) (.slice x.A x.n x.c) (ls.getD i [])
section
variable {w w' : World} {base : Nat} {v : Value} {cs : List CV} {ls : List (List UInt8)}
theorem ChOwn.nil (w : World) (base : Nat) : ChOwn w base (.slice none 0 0) [] [] := ⟨World.ownsRow_nil w base _ 3, rfl, fun i x h => by simp at h⟩
theorem ChOwn.made (w : World) (base : Nat) (hb : base ≤ w.heap.size) (g : Nat) (hg : g = w.heap.size) : ChOwn (w.alloc (.cells #[] 46)) base (.slice (some ⟨g, 0, none⟩) 0 0) [] [] := by
  subst hg
  exact ⟨World.ownsRow_made (size := 3) w #[] 0 hb (by simp [maxLen]) rfl, rfl, fun i x h => by simp at h⟩
theorem ChOwn.below (h : ChOwn w base v cs ls) (hb : Below w.heap.size w w') : ChOwn w' base v cs ls :=
  ⟨World.ownsRow.kept h.row (only_of_below hb none) (by cases v.ownBlock <;> simp), h.len, fun i x hx => ((h.bods i x hx).grown (only_of_below hb none) (by simp)).more (fun b hh => ⟨hh.1, Nat.lt_of_lt_of_le hh.2.1 hb.size, hh.2.2⟩)⟩
theorem ChOwn.other {g : Nat} (h : ChOwn w base v cs ls) (hb : w.grownBy w' (some g)) (hg : g < base) : ChOwn w' base v cs ls :=
  ⟨World.ownsRow.kept h.row hb (.inr fun e => by have := (World.ownsRow.lt h.row g e).1; omega), h.len, fun i x hx => ((h.bods i x hx).grown hb (fun b hh e => by cases e; omega)).more (fun b hh => ⟨hh.1, Nat.lt_of_lt_of_le hh.2.1 hb.size, hh.2.2⟩)⟩
theorem ChOwn.append {x : CV} {l : List UInt8} {A : Option Addr} {c : Nat} {k : Nat} (h : ChOwn w base v cs ls) (hx : BytesS w (fun b => base ≤ b ∧ b < w.heap.size ∧ v.ownBlock ≠ some b) (.slice x.A x.n x.c) l)
    (hr : w'.ownsRow base 46 3 (.slice A k c) k (cs.flatMap crow ++ crow x)) (hk : cs.length + 1 = k) (hg : w.grownBy w' v.ownBlock) (ho : (Value.slice A k c).ownBlock = v.ownBlock ∨ (Value.slice A k c).ownBlock = some w.heap.size) : ChOwn w' base (.slice A k c) (cs ++ [x]) (ls ++ [l]) := by
  have hblk : ∀ b, base ≤ b ∧ b < w.heap.size ∧ v.ownBlock ≠ some b → base ≤ b ∧ b < w'.heap.size ∧ (Value.slice A k c).ownBlock ≠ some b := fun b hb => ⟨hb.1, Nat.lt_of_lt_of_le hb.2.1 hg.size, fun e => by
    rcases ho with ho | ho
    · rw [ho] at e; exact hb.2.2 e
    · rw [ho] at e; cases e; omega⟩
  subst hk
  have hlen := h.len
  refine ⟨?_, by rw [List.length_append, List.length_append, h.len]; rfl, fun i y hy => ?_⟩
  · rw [List.length_append, List.flatMap_append, List.flatMap_cons, List.flatMap_nil, List.append_nil]
    exact hr
  · rcases Nat.lt_or_ge i cs.length with hi | hi
    · rw [List.getElem?_append_left hi] at hy
      have h1 := ((h.bods i y hy).grown hg (fun b hb e => hb.2.2 e.symm)).more hblk
      rw [List.getD_eq_getElem?_getD, List.getElem?_append_left (by rw [← h.len]; exact hi), ← List.getD_eq_getElem?_getD]
      exact h1
    · have hi2 := get_lt hy
      rw [List.length_append] at hi2
      obtain rfl : i = cs.length := by simp at hi2; omega
      rw [List.getElem?_append_right (Nat.le_refl _), Nat.sub_self] at hy
      cases hy
      rw [List.getD_eq_getElem?_getD, List.getElem?_append_right (by rw [← h.len]; exact Nat.le_refl _), ← h.len, Nat.sub_self]
      exact (hx.grown hg (fun b hb e => hb.2.2 e.symm)).more hblk
theorem ChOwn.lower {base' : Nat} (h : ChOwn w base v cs ls) (hb : base' ≤ base) : ChOwn w base' v cs ls := by
  refine ⟨⟨h.row.1, ?_⟩, h.len, fun i x hx => (h.bods i x hx).more (fun b hh => ⟨Nat.le_trans hb hh.1, hh.2⟩)⟩
  rcases h.row.2 with h0 | ⟨g, cap, cur, hv, hg, rest⟩
  · exact .inl h0
  · exact .inr ⟨g, cap, cur, hv, Nat.le_trans hb hg, rest⟩
theorem ChOwn.rows (h : ChOwn w base v cs ls) : Chs w w.heap.size v cs := by
  obtain ⟨A, c, rfl⟩ := ownsRow_some h.row
  have hs : cs.length ≤ c ∧ c ≤ maxLen := by
    rcases h.row.2 with ⟨hv, h0⟩ | ⟨g, cap, cur, hv, _, _, hn, hm, _⟩
    · obtain ⟨_, _, rfl⟩ := Value.slice.inj hv; exact ⟨by omega, by simp [maxLen]⟩
    · obtain ⟨_, _, rfl⟩ := Value.slice.inj hv; exact ⟨hn, hm⟩
  refine ⟨A, c, rfl, hs.1, hs.2, fun j u hu => ?_⟩
  have hc : ∀ {g : Nat}, (Value.slice A cs.length c).ownBlock = some g → ∀ j u, (cs.flatMap crow)[j]? = some u → w.cell? ((⟨g, 0, none⟩ : Addr).add j) = some u := fun hg => World.ownsRow.cells h.row hg
  have hlt := h.row.lt
  rcases h.row.2 with ⟨hv, h0⟩ | ⟨g, cap, cur, hv, _, _, _, _⟩
  · have hx := h.row.1
    have : cs.flatMap crow = [] := List.eq_nil_of_length_eq_zero (by rw [hx, h0])
    rw [this] at hu
    simp at hu
  · obtain ⟨rfl, _, _⟩ := Value.slice.inj hv
    exact ⟨_, rfl, (hlt g rfl).2, hc rfl j u hu⟩
theorem ChOwn.chL (h : ChOwn w base v cs ls) (hk : ∀ c ∈ cs, (Lit.int .i64 c.k).wf = true) : ChL w w.heap.size v cs ls :=
  ⟨h.rows, ⟨h.len, fun i x hx => (h.bods i x hx).bytes (fun _ hb => hb.2.1)⟩, hk⟩
end
/-- the bodies may be written: one body .. -/
def CFree1 (w : World) (base : Nat) (v : Value) (A : Option Addr) : Prop := ∀ a, A = some a → (base ≤ a.block ∧ a.block < w.heap.size ∧ v.ownBlock ≠ some a.block) ∧ ∀ j, w.frozen? (a.add j) = false
def CDis (x y : CV) : Prop := ∀ a b, x.A = some a → y.A = some b → a.block ≠ b.block
/-- .. and all of them, each in a block of its own -/
structure ChFree (w : World) (base : Nat) (v : Value) (cs : List CV) : Prop where
  one : ∀ x ∈ cs, CFree1 w base v x.A
  dis : cs.Pairwise CDis
section
variable {w w' : World} {base : Nat} {v : Value} {cs : List CV}
theorem ChFree.nil : ChFree w base v [] := ⟨fun x h => by simp at h, List.Pairwise.nil⟩
theorem CFree1.grown {A : Option Addr} {row : Option Nat} (h : CFree1 w base v A) (hg : w.grownBy w' row) (hr : ∀ b, base ≤ b → b < w.heap.size → v.ownBlock ≠ some b → some b ≠ row) : CFree1 w' base v A := fun a ha => by
  obtain ⟨⟨h1, h2, h3⟩, h4⟩ := h a ha
  exact ⟨⟨h1, Nat.lt_of_lt_of_le h2 hg.size, h3⟩, fun j => (World.frozen?_of_block (by rw [add_block]; exact hg.block a.block h2 (hr _ h1 h2 h3))).trans (h4 j)⟩
theorem ChFree.below (h : ChFree w base v cs) (hb : Below w.heap.size w w') : ChFree w' base v cs := ⟨fun x hx => (h.one x hx).grown (only_of_below hb none) (by simp), h.dis⟩
theorem ChFree.other {g : Nat} (h : ChFree w base v cs) (hb : w.grownBy w' (some g)) (hg : g < base) : ChFree w' base v cs := ⟨fun x hx => (h.one x hx).grown hb (fun b h1 _ _ e => by cases e; omega), h.dis⟩
theorem ChFree.lower {base' : Nat} (h : ChFree w base v cs) (hb : base' ≤ base) : ChFree w base' v cs := ⟨fun x hx a ha => ⟨⟨Nat.le_trans hb (h.one x hx a ha).1.1, (h.one x hx a ha).1.2⟩, (h.one x hx a ha).2⟩, h.dis⟩
theorem ChFree.append {x : CV} {A : Option Addr} {c k : Nat} (h : ChFree w base v cs) (hx : CFree1 w base v x.A) (hd : ∀ y ∈ cs, CDis y x) (hg : w.grownBy w' v.ownBlock) (ho : (Value.slice A k c).ownBlock = v.ownBlock ∨ (Value.slice A k c).ownBlock = some w.heap.size) : ChFree w' base (.slice A k c) (cs ++ [x]) := by
  refine ⟨fun y hy => ?_, List.pairwise_append.2 ⟨h.dis, List.pairwise_singleton _ _, fun a ha b hb => by
    simp only [List.mem_singleton] at hb
    rw [hb]
    exact hd a ha⟩⟩
  have h1 : CFree1 w base v y.A := by
    rcases List.mem_append.1 hy with hy | hy
    · exact h.one y hy
    · simp only [List.mem_singleton] at hy
      rw [hy]
      exact hx
  have h2 := h1.grown hg (fun b _ _ h3 e => h3 e.symm)
  exact fun a ha => ⟨⟨(h2 a ha).1.1, (h2 a ha).1.2.1, fun e => by
    rcases ho with ho | ho
    · rw [ho] at e; exact (h2 a ha).1.2.2 e
    · rw [ho] at e
      have := (h1 a ha).1.2.1
      have := Option.some.inj e
      omega⟩, (h2 a ha).2⟩
/-- a body of one's own lies above the older ones -/
theorem Own.dis {A : Option Addr} {n c lo : Nat} {l : List UInt8} {w0 : World} (h : Own 5 w lo (.slice A n c) l) (hf : ChFree w0 base v cs) (hl : w0.heap.size ≤ lo) (k : Int) (g : Bool) (n' c' : Nat) : ∀ y ∈ cs, CDis y ⟨k, g, A, n', c'⟩ := fun y hy a b ha hb => by
  have h1 := (hf.one y hy a ha).1.2.1
  simp only at hb
  subst hb
  have h2 := (h.addr' (x := b.block) rfl).2.1
  omega
theorem Own.free1 {A : Option Addr} {n c lo : Nat} {l : List UInt8} (h : Own 5 w lo (.slice A n c) l) (hb : base ≤ lo) (hv : ∀ b, v.ownBlock = some b → b < lo) : CFree1 w base v A := fun a ha => by
  subst ha
  obtain ⟨e1, h1, h2⟩ := h.addr' (x := a.block) rfl
  have e2 : a = ⟨a.block, 0, none⟩ := Option.some.inj e1
  refine ⟨⟨by omega, h2, fun e => by have := hv _ e; omega⟩, fun j => ?_⟩
  rw [e2, show (⟨a.block, 0, none⟩ : Addr).add j = ⟨a.block, j, none⟩ by simp [Addr.add_lit]]
  rw [e2] at h
  exact h.free j
end
def Great19 (w0 : World) (cs : List CV) (e : Ending) (w' : World) : Prop := ∃ g : Bool, e = .returned (.bool g) ∧ (g = false → cs.length ≤ 40 ∧ ∀ c ∈ cs, c.n ≤ 300) ∧ Below w0.heap.size w0 w'
theorem Great19.yes {w0 w' : World} {cs : List CV} (h : Below w0.heap.size w0 w') : Great19 w0 cs (.returned (.bool true)) w' := ⟨true, rfl, (fun q => by cases q), h⟩
theorem Great19.no {w0 w' : World} {cs : List CV} (h : Below w0.heap.size w0 w') (h1 : cs.length ≤ 40) (h2 : ∀ c ∈ cs, c.n ≤ 300) : Great19 w0 cs (.returned (.bool false)) w' := ⟨false, rfl, (fun _ => ⟨h1, h2⟩), h⟩
set_option maxRecDepth 100000 in
set_option maxHeartbeats 8000000 in
theorem great19_any (v : Value) (cs : List CV) (w : World) (h : Chs w w.heap.size v cs) :
    Calls Try.prog 13 #[v] w fun e w' => Great19 w cs e w' := by
  obtain ⟨A, c, rfl, hc, hm, _⟩ := id h
  have HS := Lib.hid h
  obtain ⟨N, hN⟩ : ∃ N, cs.length = N := ⟨_, rfl⟩
  have HN := Lib.hid hN
  rw [hN] at hc HS ⊢
  clear h hN
  have B0 := Lib.hid (Below.refl w.heap.size w)
  go_enter Try.func13, Try.ntmps13
  by_cases h40 : N ≤ 40
  · have d1 : decide ((40 : Int) < (N : Int)) = false := by simp; omega
    have H40 := Lib.hid h40
    go_wp2_with fail
    clear d1
    go_loopw [10] (fun i wr => ∃ k : Nat, k ≤ N ∧ i = .int .i64 k ∧ Hid (Below w.heap.size w wr) ∧ Hid (∀ (j : Nat) (x : CV), j < k → cs[j]? = some x → x.n ≤ 300)) (fun i _ => N - (intOf i).toNat)
    case atStart => exact ⟨0, Nat.zero_le _, rfl, B0, Lib.hid (fun j x h => by omega)⟩
    case round =>
      clear B0
      rename_i wr
      obtain ⟨k, hk, rfl, hb, hP⟩ := hrel
      by_cases hlt : k < N
      · obtain ⟨x, hx⟩ : ∃ x, cs[k]? = some x := ⟨_, List.getElem?_eq_getElem (by rw [HN.out]; exact hlt)⟩
        obtain ⟨a, rfl, hab, hck⟩ := (HS.out.below hb.out).elem hx
        have HX := Lib.hid hx
        obtain ⟨xk, xg, xA, xn, xc⟩ := x
        have HCK := Lib.hid (show ∀ j u, ([.int .i64 xk, .bool xg, .slice xA xn xc] : List Value)[j]? = some u → wr.cell? ((a.add (k * 3)).add j) = some u from hck)
        have x2 : (wr.alloc (.cells #[.int .i64 xk, .bool xg, .slice xA xn xc] 46)).cell? ⟨wr.heap.size, 2, none⟩ = some (.slice xA xn xc) := (Blk.new3c wr _ _ _ _).cell 2
        have H3 := Lib.hid (hb.out.alloc hb.out.size (.cells #[.int .i64 xk, .bool xg, .slice xA xn xc] 46))
        clear hck hx
        by_cases h3 : xn ≤ 300
        · have d2 : decide ((300 : Int) < (xn : Int)) = false := by simp; omega
          have HP3 : Hid (∀ (j : Nat) (x : CV), j < k + 1 → cs[j]? = some x → x.n ≤ 300) := Lib.hid (fun j x hj hx => by
            rcases Nat.lt_or_ge j k with h | h
            · exact hP.out j x h hx
            · obtain rfl : j = k := by omega
              rw [HX.out] at hx
              cases hx
              exact h3)
          go_wp2_with (with_reducible refine wpl_cells (q := a.add (k * 3)) (row := [.int .i64 xk, .bool xg, .slice xA xn xc]) aggC sizeC (.tmp 12) rfl rfl rfl rfl HCK.out ?_)
          exact ⟨⟨k + 1, by omega, by go_num, H3, HP3⟩, by simp [intOf]; omega⟩
        · have d2 : decide ((300 : Int) < (xn : Int)) = true := by simp; omega
          go_wp2_with (with_reducible refine wpl_cells (q := a.add (k * 3)) (row := [.int .i64 xk, .bool xg, .slice xA xn xc]) aggC sizeC (.tmp 12) rfl rfl rfl rfl HCK.out ?_)
          go_ret
          exact Great19.yes H3.out
      · obtain rfl : k = N := by omega
        go_wp2_with fail
        go_ret
        exact Great19.no hb.out (by rw [HN.out]; exact H40.out) (fun x hx => by
          obtain ⟨i, hi⟩ := List.mem_iff_getElem?.1 hx
          exact hP.out i x (by rw [← HN.out]; exact get_lt hi) hi)
  · have d1 : decide ((40 : Int) < (N : Int)) = true := by simp; omega
    go_wp2_with fail
    go_ret
    exact Great19.yes B0.out
def kg (x : CV) : Int × Bool := (x.k, x.g)
theorem row_one (w : World) (x : CV) (B : Nat) (hB : w.heap.size < B) : Row (w.alloc (.cells #[.int .i64 x.k, .bool x.g, .slice x.A x.n x.c] 46)) B (some ⟨w.heap.size, 0, none⟩) (crow x) := fun j u hu => by
  refine ⟨⟨w.heap.size, 0, none⟩, rfl, hB, ?_⟩
  rw [show (⟨w.heap.size, 0, none⟩ : Addr).add j = ⟨w.heap.size, j, none⟩ by simp [Addr.add_lit], (Blk.new3c w _ _ _ _).cell]
  exact hu
set_option maxRecDepth 100000 in
set_option maxHeartbeats 16000000 in
/-- copied: the same changes, of their own memory, that may be written -/
theorem copied_free (v : Value) (cs : List CV) (ls : List (List UInt8)) (w : World) (h : ChL w w.heap.size v cs ls) (hz : cs.length ≤ 1000) (hn : ∀ c ∈ cs, c.n ≤ 100000) :
    Calls Try.prog 18 #[v] w fun e w' => ∃ v' cs', e = .returned v' ∧ ChOwn w' w.heap.size v' cs' ls ∧ ChFree w' w.heap.size v' cs' ∧ cs'.map kg = cs.map kg ∧ Below w.heap.size w w' := by
  obtain ⟨A, c, rfl, hc, hm⟩ := chL_wid h
  have HS := Lib.hid h
  obtain ⟨N, hN⟩ : ∃ N, cs.length = N := ⟨_, rfl⟩
  have HN := Lib.hid hN
  have HNN := Lib.hid hn
  rw [hN] at hc hz HS ⊢
  clear h hN hn
  have B0 := Lib.hid ((Below.refl w.heap.size w).alloc (Nat.le_refl _) (.cells #[] 46))
  have C0 := Lib.hid (ChOwn.made w w.heap.size (Nat.le_refl _) w.heap.size rfl)
  go_enter Try.func18, Try.ntmps18
  go_wp2_with fail
  go_loopw [3, 9] (fun o i wr => ∃ (k : Nat) (A' : Option Addr) (c' : Nat) (cs' : List CV), k ≤ N ∧ o = .slice A' k c' ∧ i = .int .i64 k ∧ Hid (ChOwn wr w.heap.size (.slice A' k c') cs' (ls.take k)) ∧ Hid (ChFree wr w.heap.size (.slice A' k c') cs') ∧ Hid (cs'.map kg = (cs.take k).map kg) ∧ Hid (Below w.heap.size w wr)) (fun _ i _ => N - (intOf i).toNat)
  case atStart => exact ⟨0, _, _, [], Nat.zero_le _, rfl, rfl, Lib.hid (by rw [List.take_zero]; exact C0.out), Lib.hid ChFree.nil, Lib.hid (by rw [List.take_zero]), B0⟩
  case round =>
    clear B0 C0
    rename_i wr
    obtain ⟨k, A', c', cs', hk, rfl, rfl, hO, hF, hM, hb⟩ := hrel
    by_cases hlt : k < N
    · obtain ⟨x, hx⟩ : ∃ x, cs[k]? = some x := ⟨_, List.getElem?_eq_getElem (by rw [HN.out]; exact hlt)⟩
      obtain ⟨a, rfl, hab, hck⟩ := (HS.out.below hb.out).rows.elem hx
      have hby := (((HS.out.below hb.out).bods.2 k x hx)).more hb.out.size
      have hxn := HNN.out x (List.mem_of_getElem? hx)
      have HX := Lib.hid hx
      obtain ⟨xk, xg, xA, xn, xc⟩ := x
      obtain ⟨l, hl⟩ : ∃ l, l = ls.getD k [] := ⟨_, rfl⟩
      rw [← hl] at hby
      have HLT : Hid (ls.take (k + 1) = ls.take k ++ [l]) := Lib.hid (take_snoc ls (by
        have hlen := HS.out.bods.1
        rw [hl, List.getD_eq_getElem?_getD, List.getElem?_eq_getElem (by rw [← hlen, HN.out]; exact hlt)]
        rfl))
      have HLL : Hid (l.length = xn) := Lib.hid (by obtain ⟨_, _, e, _⟩ := hby; simp only [Value.slice.injEq] at e; exact e.2.1.symm)
      have HCK := Lib.hid (show ∀ j u, ([.int .i64 xk, .bool xg, .slice xA xn xc] : List Value)[j]? = some u → wr.cell? ((a.add (k * 3)).add j) = some u from hck)
      have HMT : Hid ((cs.take (k + 1)).map kg = (cs.take k).map kg ++ [(xk, xg)]) := Lib.hid (by rw [take_snoc cs HX.out, List.map_append]; rfl)
      have B3 := Lib.hid ((Below.refl wr.heap.size wr).alloc (Nat.le_refl _) (.cells #[.int .i64 xk, .bool xg, .slice xA xn xc] 46))
      have X3 := Lib.hid (Blk.new3c wr (.int .i64 xk) (.bool xg) (.slice xA xn xc) 46)
      have BY3 := Lib.hid (hby.below B3.out)
      clear hck hx hby hl
      go_upto_region 5 with (with_reducible refine wpl_cells (q := a.add (k * 3)) (row := [.int .i64 xk, .bool xg, .slice xA xn xc]) aggC sizeC (.tmp 11) rfl rfl rfl rfl HCK.out ?_)
      have HBS := Lib.hid hb.out.size
      obtain ⟨W3, hW3⟩ : ∃ W3, W3 = wr.alloc (.cells #[.int .i64 xk, .bool xg, .slice xA xn xc] 46) := ⟨_, rfl⟩
      have S3 : Hid (W3.heap.size = wr.heap.size + 1) := Lib.hid (by rw [hW3, World.size_alloc])
      rw [← hW3] at X3 BY3 B3 ⊢
      obtain ⟨p, hp⟩ : ∃ p, p = wr.heap.size := ⟨_, rfl⟩
      have HP : Hid (w.heap.size ≤ p ∧ p < W3.heap.size) := Lib.hid ⟨by rw [hp]; exact hb.out.size, by rw [hp, S3.out]; omega⟩
      rw [← hp] at X3 BY3 B3 ⊢
      have HPE := Lib.hid hp
      clear hW3 hp HCK S3
      have O3 := Lib.hid (Own.made (e := 5) (w := W3) (base := W3.heap.size) #[] 0 (Nat.le_refl _) (by simp [maxLen]) rfl W3.heap.size rfl)
      have B4 := Lib.hid ((Below.refl W3.heap.size W3).alloc (Nat.le_refl _) (.cells #[] 5))
      have BY4 := Lib.hid ((BY3.out.more (Nat.le_of_lt HP.out.2)).below B4.out)
      have HLM : Hid (l.length ≤ 100000) := Lib.hid (by rw [HLL.out]; exact hxn)
      have x4 : (W3.alloc (.cells #[] 5)).cell? ⟨p, 2, none⟩ = some (.slice xA xn xc) := (X3.out.alloc _).cell 2
      go_upto_region 6 with (at_builtin; go_loud (refine wpl_append_bytes byteTys rfl (.tmp 13) (.tmp 15) rfl rfl O3.out W3.heap.size (.slice xA xn xc) l rfl BY4.out (by simp only [List.length_nil]; have := HLM.out; omega) (by simp) xn (by simp [HLL.out]) ?_); intro A7 c7 w7 O7 g7 h7; have HO7 := Lib.hid O7; have G7 := Lib.hid (B4.out.trans g7); have X7 := Lib.hid (X3.out.after G7.out); have x7 : w7.cell? ⟨p, 2, none⟩ = some (.slice xA xn xc) := X7.out.cell 2; have f7 := X7.out.free 2; clear O7 g7 h7)
      have X8 := Lib.hid (X7.out.set 2 (.slice A7 xn c7))
      have s8 := only_set w7 ⟨p, 2, none⟩ (.slice A7 xn c7)
      have P8 := Lib.hid (show Below p wr (w7.setCell ⟨p, 2, none⟩ (.slice A7 xn c7)) from (B3.out.trans (G7.out.mono (Nat.le_of_lt HP.out.2))).grown s8 (Nat.le_trans (Nat.le_of_lt HP.out.2) G7.out.size) (fun q e => by cases e; exact Nat.le_refl _))
      have HO8 := Lib.hid (HO7.out.kept s8 (.inr (fun e => by have h1 : W3.heap.size ≤ p := (World.ownsRow.lt HO7.out _ e).1; have := HP.out; omega)))
      obtain ⟨W8, hW8⟩ : ∃ W8, W8 = w7.setCell ⟨p, 2, none⟩ (.slice A7 xn c7) := ⟨_, rfl⟩
      rw [← hW8] at X8 P8 HO8 ⊢
      clear s8 x7 f7 x4 hW8
      have C8 := Lib.hid (hO.out.below (w' := W8) (by rw [← HPE.out]; exact P8.out))
      have F8 := Lib.hid (hF.out.below (w' := W8) (by rw [← HPE.out]; exact P8.out))
      have HDS : Hid (∀ y ∈ cs', CDis y ⟨xk, xg, A7, xn, c7⟩) := Lib.hid (HO8.out.dis hF.out (by have := HP.out; have := HPE.out; omega) _ _ _ _)
      have X8F : Hid (CFree1 W8 w.heap.size (.slice A' k c') A7) := Lib.hid (HO8.out.free1 (by have := HP.out; omega) (fun b e => by have h2 : b < wr.heap.size := (World.ownsRow.lt hO.out.row b e).2; have := HP.out; have := HPE.out; omega))
      have N8 : Hid (BytesS W8 (fun b => w.heap.size ≤ b ∧ b < W8.heap.size ∧ (Value.slice A' k c').ownBlock ≠ some b) (.slice A7 xn c7) l) := Lib.hid ((bytesS_cut (Own.toS (S := fun b => W3.heap.size ≤ b) HO8.out (fun b h => h) HLM.out)).more (fun b h => ⟨by have h1 : W3.heap.size ≤ b := h.1; have := HP.out; omega, h.2, fun e => by have h1 : W3.heap.size ≤ b := h.1; have h2 : b < wr.heap.size := (World.ownsRow.lt hO.out.row b e).2; have := HP.out; have := HPE.out; omega⟩))
      have T8 := Lib.hid (hb.out.trans (P8.out.mono (by rw [HPE.out]; exact HBS.out)))
      have hcl : Hid (cs'.length = k) := Lib.hid (by rw [← List.length_map (f := kg), hM.out, List.length_map, List.length_take, HN.out]; omega)
      have R8 := Lib.hid (row_one W8 ⟨xk, xg, A7, xn, c7⟩ (W8.heap.size + 1) (Nat.lt_succ_self _))
      have B9 := Lib.hid ((Below.refl W8.heap.size W8).alloc (Nat.le_refl _) (.cells #[.int .i64 xk, .bool xg, .slice A7 xn c7] 46))
      have C9 := Lib.hid (C8.out.below B9.out)
      have F9 := Lib.hid (F8.out.below B9.out)
      have X9F := Lib.hid (X8F.out.grown (only_of_below B9.out none) (by simp))
      have N9 : Hid (BytesS (W8.alloc (.cells #[.int .i64 xk, .bool xg, .slice A7 xn c7] 46)) (fun b => w.heap.size ≤ b ∧ b < (W8.alloc (.cells #[.int .i64 xk, .bool xg, .slice A7 xn c7] 46)).heap.size ∧ (Value.slice A' k c').ownBlock ≠ some b) (.slice A7 xn c7) l) := Lib.hid ((N8.out.grown (only_of_below B9.out none) (by simp)).more (fun b h => ⟨h.1, Nat.lt_of_lt_of_le h.2.1 B9.out.size, h.2.2⟩))
      have T9 := Lib.hid (T8.out.trans (B9.out.mono T8.out.size))
      have HW9 := Lib.hid (C9.out.row)
      rw [hcl.out] at HW9
      clear hO hF hb C8 N8 T8 F8 X8F HO7 HO8 P8 BY3 BY4 O3 B4 G7 X7 X3 B3
      go_wp2_with (first
        | (with_reducible refine wpl_seg_load aggC sizeC (.tmp 5) rfl rfl X8.out 0 [.int .i64 xk, .bool xg, .slice A7 xn c7] rfl rfl rfl ?_)
        | (at_builtin; go_loud (refine wpl_app_row rowC (by decide) rfl (.tmp 18) (.tmp 20) rfl rfl HW9.out ⟨W8.heap.size, 0, none⟩ 1 1 (crow ⟨xk, xg, A7, xn, c7⟩) rfl (by decide) rfl (W8.heap.size + 1) R8.out (crow_one _) (by omega) (by decide) T9.out.size (k + 1) rfl ?_); intro A10 c10 w10 r10 g10 o10; have C10 := Lib.hid (C9.out.append N9.out r10 (by rw [hcl.out]) g10 o10); have F10 := Lib.hid (ChFree.append (x := ⟨xk, xg, A7, xn, c7⟩) F9.out X9F.out HDS.out g10 o10); have T10 := Lib.hid (T9.out.grown g10 T9.out.size (fun b e => (World.ownsRow.lt C9.out.row b e).1)); clear r10 g10 o10))
      exact ⟨⟨k + 1, _, _, cs' ++ [⟨xk, xg, A7, xn, c7⟩], by omega, rfl, by go_num, Lib.hid (by rw [HLT.out]; exact C10.out), F10, Lib.hid (by rw [HMT.out, List.map_append, hM.out]; rfl), T10⟩, by simp [intOf]; omega⟩
    · obtain rfl : k = N := by omega
      go_wp2_with fail
      go_ret
      exact ⟨_, cs', rfl, by have h1 := hO.out; rw [List.take_of_length_le (by rw [← HS.out.bods.1, HN.out]; exact Nat.le_refl _)] at h1; exact h1, hF.out, by have h1 := hM.out; rw [List.take_of_length_le (by rw [HN.out]; exact Nat.le_refl _)] at h1; exact h1, hb.out⟩
theorem copied_any (v : Value) (cs : List CV) (ls : List (List UInt8)) (w : World) (h : ChL w w.heap.size v cs ls) (hz : cs.length ≤ 1000) (hn : ∀ c ∈ cs, c.n ≤ 100000) :
    Calls Try.prog 18 #[v] w fun e w' => ∃ v' cs', e = .returned v' ∧ ChOwn w' w.heap.size v' cs' ls ∧ cs'.map kg = cs.map kg ∧ Below w.heap.size w w' :=
  (copied_free v cs ls w h hz hn).mono fun _ _ ⟨v', cs', h1, h2, _, h3, h4⟩ => ⟨v', cs', h1, h2, h3, h4⟩
end Go.Proofs.Ytppodbijdhcclaa

/- Changes of a cache, in full. No condition. -/
namespace Go.Proofs.Ytppodbijdhcclaa
open Go Go.RowKit Go.Maps
/-- the changes that count, of the keys below k -/
def chgTo (th : List Bool) (P : Int → Option CE) : Nat → List (Int × CE)
  | 0 => []
  | k + 1 => chgTo th P k ++ match P (k : Int) with
    | some e => if (!e.gone || th.getD k false) = true then [((k : Int), e)] else []
    | none => []
def chKg (x : Int × CE) : Int × Bool := (x.1, x.2.gone)
def chBody (x : Int × CE) : List UInt8 := if x.2.gone then [] else x.2.body
theorem chgTo_len (th : List Bool) (P : Int → Option CE) : ∀ k, (chgTo th P k).length ≤ k
  | 0 => Nat.le_refl _
  | k + 1 => by
    have h := chgTo_len th P k
    have h2 : (match P (k : Int) with
      | some e => if (!e.gone || th.getD k false) = true then [((k : Int), e)] else []
      | none => ([] : List (Int × CE))).length ≤ 1 := by
      cases P (k : Int) with
      | none => simp
      | some e => dsimp only; split <;> simp
    unfold chgTo
    rw [List.length_append]
    omega
theorem chgTo_yes {th : List Bool} {P : Int → Option CE} {k : Nat} {e : CE} (h : P (k : Int) = some e) (hc : (!e.gone || th.getD k false) = true) : chgTo th P (k + 1) = chgTo th P k ++ [((k : Int), e)] := by
  show _ ++ _ = _
  rw [h]
  dsimp only
  rw [if_pos hc]
theorem chgTo_no {th : List Bool} {P : Int → Option CE} {k : Nat} (h : ∀ e, P (k : Int) = some e → (!e.gone || th.getD k false) = false) : chgTo th P (k + 1) = chgTo th P k := by
  show _ ++ _ = _
  cases hp : P (k : Int) with
  | none => simp
  | some e =>
    dsimp only
    rw [if_neg (by rw [h e hp]; simp), List.append_nil]
/-- what Changes gives, the bodies such as may be written -/
def ChgF (w : World) (L : List (Int × CE)) (e : Ending) (w' : World) : Prop := ∃ v cs, e = .returned v ∧ ChOwn w' w.heap.size v cs (L.map chBody) ∧ ChFree w' w.heap.size v cs ∧ cs.map kg = L.map chKg ∧ Below w.heap.size w w'
/-- what Changes gives -/
def ChgC (w : World) (L : List (Int × CE)) (e : Ending) (w' : World) : Prop := ∃ v cs, e = .returned v ∧ ChOwn w' w.heap.size v cs (L.map chBody) ∧ cs.map kg = L.map chKg ∧ Below w.heap.size w w'
set_option maxRecDepth 100000 in
set_option maxHeartbeats 16000000 in
theorem changes_free (i : CI) (N : Nat) (P : Int → Option CE) (S : Nat → Prop) (w : World) (h : CAt w i N P S) (hPb : ∀ z e, P z = some e → e.body.length ≤ 100000) :
    Calls Try.prog 24 #[.pointer (some ⟨i.q, 0, none⟩)] w fun e w' => ChgF w (chgTo i.th P 256) e w' := by
  obtain ⟨a1, a2, a3, N0, D, f, a4, a5, a6, a7⟩ := id h
  obtain ⟨q, m, s, bs, th, mo⟩ := i
  simp only at a1 a2 a3 a5 ⊢
  have z0 := zeroLive
  have Q0 := Lib.hid (show Blk w q 89 [.iface 26 (.pointer (some ⟨s, 0, none⟩)), .map (some m)] from a1)
  have M0 := Lib.hid a5
  have HF := Lib.hid a6
  have HT := Lib.hid a7
  have HS3 := Lib.hid a3
  have HPB := Lib.hid hPb
  have KL := Lib.hid (nlive_any s bs th mo w a2)
  obtain ⟨L0, hL0⟩ : ∃ L0, L0 = srcTo th 256 := ⟨_, rfl⟩
  have HL0 : Hid (L0.length = 32) := Lib.hid (by rw [hL0]; exact srcTo_length th 256)
  have HLH : Hid (∀ k : Nat, k < 256 → lhas L0 (k : Int) = th.getD k false) := Lib.hid (fun k hk => by
    rw [hL0, lhas_srcTo th 256 (Nat.le_refl _), decide_eq_true (by omega), Bool.true_and, Int.toNat_natCast])
  rw [← hL0] at KL
  have q0 := Blk.cell a1 0
  simp only [List.getElem?_cons_zero] at q0
  have ml := meth_live
  clear h a1 a2 a3 a4 a5 a6 a7 hL0 hPb
  go_enter Try.func24, Try.ntmps24
  go_upto_region 3 with (first
    | ((with_reducible refine KL.out.mono ?_); rintro e w1 ⟨rfl, b1⟩; have H1 := Lib.hid b1; have A1 := Lib.hid (LArr.new w1 lzeros_length); clear KL b1 ml q0)
    | (with_reducible refine wpl_lstore (.tmp 4) (.tmp 12) rfl rfl A1.out rfl HL0.out rfl ?_; intro w3 A3' g3 e3; have A3 := Lib.hid A3'; have H3 := Lib.hid ((H1.out.alloc H1.out.size (.cells (cl lzeros) 53)).grown g3 (Nat.le_trans H1.out.size (by simp)) (fun k e => by cases e; exact H1.out.size)); clear A3' g3 e3 A1))
  obtain ⟨gv, hgv⟩ : ∃ gv, gv = w1.heap.size := ⟨_, rfl⟩
  have GV : Hid (w.heap.size ≤ gv ∧ gv < w3.heap.size) := Lib.hid ⟨by rw [hgv]; exact H1.out.size, by rw [hgv]; exact A3.out.lt⟩
  rw [← hgv] at A3 ⊢
  clear hgv H1
  go_wp2_with fail
  go_loopw [3, 13] (fun l i wr => ∃ (k n : Nat) (A : Option Addr) (c : Nat) (cs : List CV), k ≤ 256 ∧ n ≤ k ∧ l = .slice A n c ∧ i = .int .i64 k ∧ Hid (ChOwn wr (gv + 1) (.slice A n c) cs ((chgTo th P k).map chBody)) ∧ Hid (ChFree wr (gv + 1) (.slice A n c) cs) ∧ Hid (cs.map kg = (chgTo th P k).map chKg ∧ cs.length = n) ∧ Hid (LArr wr gv L0) ∧ Hid (Below w.heap.size w wr)) (fun _ i _ => 256 - (intOf i).toNat)
  case atStart => exact ⟨0, 0, none, 0, [], Nat.zero_le _, Nat.le_refl _, rfl, rfl, Lib.hid (ChOwn.nil _ _), Lib.hid ChFree.nil, Lib.hid ⟨rfl, rfl⟩, A3, H3⟩
  case round =>
    clear A3 H3
    rename_i wr
    obtain ⟨k, n, A, c, cs, hk, hnk, rfl, rfl, hO, hFr, hM, hA, hb⟩ := hrel
    have q1 : wr.cell? ⟨q, 1, none⟩ = some (.map (some m)) := (Q0.out.below hb.out Q0.out.lt).cell 1
    have MR := M0.out.kept (only_of_below hb.out none) (by simp)
    by_cases hlt : k < 256
    · have d1 : decide ((k : Int) < 256) = true := by simp; omega
      cases hfk : f (k : Int) with
      | none =>
        have hrun := look_none MR HF.out (wfC ⟨by omega, by omega⟩) hfk
        have HN1 : Hid (chgTo th P (k + 1) = chgTo th P k) := Lib.hid (chgTo_no (fun e he => by
          have h1 := (HT.out (k : Int)).1
          rw [hfk, he] at h1
          cases h1))
        have B2 := Lib.hid ((Below.refl wr.heap.size wr).alloc (Nat.le_refl _) (.cells #[.int .i64 0, .bool false, .slice none 0 0] 46))
        clear MR hfk
        go_wp2_with fail
        exact ⟨⟨k + 1, n, A, c, cs, by omega, by omega, rfl, by go_num, Lib.hid (by rw [HN1.out]; exact hO.out.below B2.out), Lib.hid (hFr.out.below B2.out), Lib.hid (by rw [HN1.out]; exact hM.out), Lib.hid (hA.out.alloc _), Lib.hid (hb.out.alloc hb.out.size _)⟩, by simp [intOf]; omega⟩
      | some x =>
        have hrun := look_some MR HF.out hfk
        obtain ⟨e, he⟩ : ∃ e, P (k : Int) = some e := by
          have h1 := (HT.out (k : Int)).1
          rw [hfk] at h1
          cases hp : P (k : Int) with
          | none => rw [hp] at h1; cases h1
          | some e => exact ⟨e, rfl⟩
        have hge : x.g = e.gone := by
          have h1 := (HT.out (k : Int)).1
          rw [hfk, he] at h1
          simpa using h1
        have hkey := ((HF.out (k : Int)).2 x hfk).1.1
        have hbyS := (HT.out (k : Int)).2 x e hfk he
        have hby : Bytes wr wr.heap.size (.slice x.A x.n x.c) e.body := ((hbyS.grown (only_of_below hb.out none) (by simp)).bytes (fun b hS => Nat.lt_of_lt_of_le (HS3.out b hS).2 hb.out.size))
        obtain ⟨xk, xg, xA, xn, xc⟩ := x
        simp only at hge hkey hby hrun
        subst hkey
        have HE := Lib.hid he
        have HGE := Lib.hid hge
        have HLB := Lib.hid (HPB.out _ _ he)
        have HLL : Hid (e.body.length = xn) := Lib.hid (by obtain ⟨_, _, e1, _⟩ := hby; simp only [Value.slice.injEq] at e1; exact e1.2.1.symm)
        have B2 := Lib.hid ((Below.refl wr.heap.size wr).alloc (Nat.le_refl _) (.cells #[.int .i64 (k : Int), .bool xg, .slice xA xn xc] 46))
        have A2 := Lib.hid (hA.out.alloc (.cells #[.int .i64 (k : Int), .bool xg, .slice xA xn xc] 46))
        have H2 := Lib.hid (hb.out.alloc hb.out.size (.cells #[.int .i64 (k : Int), .bool xg, .slice xA xn xc] 46))
        have O2 := Lib.hid (hO.out.below B2.out)
        have F2 := Lib.hid (hFr.out.below B2.out)
        have X2 := Lib.hid (Blk.new3c wr (.int .i64 (k : Int)) (.bool xg) (.slice xA xn xc) 46)
        have BY2 := Lib.hid ((hby.below B2.out).more B2.out.size)
        have x1 := X2.out.cell 1
        simp only [List.getElem?_cons_succ, List.getElem?_cons_zero] at x1
        have KH := Lib.hid (has_any L0 HL0.out (k : Int) (wr.alloc (.cells #[.int .i64 (k : Int), .bool xg, .slice xA xn xc] 46)))
        rw [HLH.out k hlt] at KH
        obtain ⟨tb, htb⟩ : ∃ tb, tb = th.getD k false := ⟨_, rfl⟩
        rw [← htb] at KH
        have HTB := Lib.hid htb
        clear MR hfk he hge hbyS hby htb hA hb hO
        cases xg with
        | true =>
          cases tb with
          | true =>
            have HN1 := Lib.hid (chgTo_yes (th := th) HE.out (by rw [← HTB.out]; simp))
            go_upto_region 8 with (first
              | (with_reducible refine wpl_lload (.tmp 4) rfl rfl A2.out rfl ?_)
              | ((with_reducible refine KH.out.mono ?_); rintro e4 w4 ⟨rfl, b4⟩; have A4 := Lib.hid (A2.out.after b4); have H4 := Lib.hid (H2.out.trans (b4.mono H2.out.size)); have O4 := Lib.hid (O2.out.below b4); have F4 := Lib.hid (F2.out.below b4); have X4 := Lib.hid (X2.out.after b4); have BY4 := Lib.hid ((BY2.out.below b4).more b4.size); clear KH b4 A2 H2 O2 X2 BY2 x1 B2))
            obtain ⟨p, hp⟩ : ∃ p, p = wr.heap.size := ⟨_, rfl⟩
            have HP : Hid (gv + 1 ≤ w4.heap.size) := Lib.hid (A4.out.lt)
            rw [← hp] at X4 ⊢
            clear hp
            have KO := Lib.hid (own_any (k : Int) true (.slice xA xn xc) e.body w4 BY4.out HLB.out)
            simp only [if_true] at KO
            have HBD : Hid (chBody ((k : Int), e) = []) := Lib.hid (by unfold chBody; rw [← HGE.out]; rfl)
            have HBL : Hid (([] : List UInt8).length ≤ 100000) := Lib.hid (Nat.zero_le _)
            go_wp2_with (first
              | (with_reducible refine wpl_seg_load aggC sizeC (.tmp 6) rfl rfl X4.out 0 [.int .i64 (k : Int), .bool true, .slice xA xn xc] rfl rfl rfl ?_)
              | ((with_reducible refine KO.out.mono ?_); rintro e5 w5 ⟨A5, c5, n5, hn5, rfl, O5, b5⟩; have C5 := Lib.hid (O4.out.below b5); have F5 := Lib.hid (F4.out.below b5); have X5F : Hid (CFree1 w5 (gv + 1) (.slice A n c) A5) := Lib.hid (O5.free1 HP.out (fun b e => (World.ownsRow.lt O4.out.row b e).2)); have H5 := Lib.hid (H4.out.trans (b5.mono H4.out.size)); have N5 : Hid (BytesS w5 (fun b => gv + 1 ≤ b ∧ b < w5.heap.size ∧ (Value.slice A n c).ownBlock ≠ some b) (.slice A5 n5 c5) []) := Lib.hid ((bytesS_cut (Own.toS (S := fun b => w4.heap.size ≤ b) O5 (fun b h => h) HBL.out)).more (fun b h => ⟨by have h1 : w4.heap.size ≤ b := h.1; have := HP.out; omega, h.2, fun e => by have h1 : w4.heap.size ≤ b := h.1; have h2 : b < w4.heap.size := (World.ownsRow.lt O4.out.row b e).2; omega⟩)); have A5' := Lib.hid (A4.out.after b5); have B6 := Lib.hid ((Below.refl w5.heap.size w5).alloc (Nat.le_refl _) (.cells #[.int .i64 (k : Int), .bool true, .slice A5 n5 c5] 46)); have HDS : Hid (∀ y ∈ cs, CDis y ⟨(k : Int), true, A5, n5, c5⟩) := Lib.hid (O5.dis F4.out (Nat.le_refl _) _ _ _ _); have R6 := Lib.hid (row_one w5 ⟨(k : Int), true, A5, n5, c5⟩ (w5.heap.size + 1) (Nat.lt_succ_self _)); have C6 := Lib.hid (C5.out.below B6.out); have F6 := Lib.hid (F5.out.below B6.out); have X6F := Lib.hid (X5F.out.grown (only_of_below B6.out none) (by simp)); have N6 : Hid (BytesS (w5.alloc (.cells #[.int .i64 (k : Int), .bool true, .slice A5 n5 c5] 46)) (fun b => gv + 1 ≤ b ∧ b < (w5.alloc (.cells #[.int .i64 (k : Int), .bool true, .slice A5 n5 c5] 46)).heap.size ∧ (Value.slice A n c).ownBlock ≠ some b) (.slice A5 n5 c5) []) := Lib.hid ((N5.out.grown (only_of_below B6.out none) (by simp)).more (fun b h => ⟨h.1, Nat.lt_of_lt_of_le h.2.1 B6.out.size, h.2.2⟩)); have T6 := Lib.hid (H5.out.trans (B6.out.mono H5.out.size)); have HG6 : Hid (gv + 1 ≤ (w5.alloc (.cells #[.int .i64 (k : Int), .bool true, .slice A5 n5 c5] 46)).heap.size) := Lib.hid (Nat.le_trans HP.out (Nat.le_trans b5.size B6.out.size)); have HW6 := Lib.hid (C6.out.row); rw [hM.out.2] at HW6; have A6 := Lib.hid (A5'.out.after B6.out); clear KO b5 O5 hn5 C5 N5 A5' B6)
              | (at_builtin; go_loud (refine wpl_app_row rowC (by decide) rfl (.tmp 36) (.tmp 39) rfl rfl HW6.out ⟨w5.heap.size, 0, none⟩ 1 1 (crow ⟨(k : Int), true, A5, n5, c5⟩) rfl (by decide) rfl (w5.heap.size + 1) R6.out (crow_one _) (by omega) (by decide) HG6.out (n + 1) rfl ?_); intro A10 c10 w10 r10 g10 o10; have C10 := Lib.hid (C6.out.append N6.out r10 (by rw [hM.out.2]) g10 o10); have F10 := Lib.hid (ChFree.append (x := ⟨(k : Int), true, A5, n5, c5⟩) F6.out X6F.out HDS.out g10 o10); have T10 := Lib.hid (T6.out.grown g10 T6.out.size (fun b e => by have := (World.ownsRow.lt C6.out.row b e).1; have := GV.out; omega)); have A10' := Lib.hid (show LArr w10 gv L0 from ⟨(g10.block gv A6.out.lt (fun e => by have := (World.ownsRow.lt C6.out.row gv e.symm).1; omega)).trans A6.out.1, A6.out.2⟩); clear r10 g10 o10))
            exact ⟨⟨k + 1, n + 1, _, _, cs ++ [⟨(k : Int), true, A5, n5, c5⟩], by omega, by omega, rfl, by go_num, Lib.hid (by rw [HN1.out, List.map_append, List.map_cons, List.map_nil, HBD.out]; exact C10.out), F10, Lib.hid ⟨by rw [HN1.out, List.map_append, List.map_append, hM.out.1, List.map_cons, List.map_nil, List.map_cons, List.map_nil]; unfold kg chKg; rw [← HGE.out], by rw [List.length_append, hM.out.2]; rfl⟩, A10', T10⟩, by simp [intOf]; omega⟩
          | false =>
            have HN1 : Hid (chgTo th P (k + 1) = chgTo th P k) := Lib.hid (chgTo_no (fun e2 he => by
              rw [HE.out] at he
              cases he
              rw [← HTB.out, ← HGE.out]
              rfl))
            go_wp2_with (first
              | (with_reducible refine wpl_lload (.tmp 4) rfl rfl A2.out rfl ?_)
              | ((with_reducible refine KH.out.mono ?_); rintro e4 w4 ⟨rfl, b4⟩; have A4 := Lib.hid (A2.out.after b4); have H4 := Lib.hid (H2.out.trans (b4.mono H2.out.size)); have O4 := Lib.hid (O2.out.below b4); have F4 := Lib.hid (F2.out.below b4); clear KH b4 A2 H2 O2))
            exact ⟨⟨k + 1, n, A, c, cs, by omega, by omega, rfl, by go_num, Lib.hid (by rw [HN1.out]; exact O4.out), F4, Lib.hid (by rw [HN1.out]; exact hM.out), A4, H4⟩, by simp [intOf]; omega⟩
        | false =>
          have HN1 := Lib.hid (chgTo_yes (th := th) HE.out (by rw [← HGE.out]; simp))
          go_upto_region 8 with fail
          obtain ⟨w4, hw4⟩ : ∃ w4, w4 = wr.alloc (.cells #[.int .i64 (k : Int), .bool false, .slice xA xn xc] 46) := ⟨_, rfl⟩
          have A4 := A2; have H4 := H2; have O4 := O2; have F4 := F2; have X4 := X2; have BY4 := BY2
          rw [← hw4] at A4 H4 O4 F4 X4 BY4 ⊢
          clear hw4 KH A2 H2 O2 X2 BY2 x1 B2
          obtain ⟨p, hp⟩ : ∃ p, p = wr.heap.size := ⟨_, rfl⟩
          have HP : Hid (gv + 1 ≤ w4.heap.size) := Lib.hid (A4.out.lt)
          rw [← hp] at X4 ⊢
          clear hp
          have KO := Lib.hid (own_any (k : Int) false (.slice xA xn xc) e.body w4 BY4.out HLB.out)
          simp only [Bool.false_eq_true, if_false] at KO
          have HBD : Hid (chBody ((k : Int), e) = e.body) := Lib.hid (by unfold chBody; rw [← HGE.out]; rfl)
          have HBL : Hid ((e.body : List UInt8).length ≤ 100000) := Lib.hid (HLB.out)
          go_wp2_with (first
            | (with_reducible refine wpl_seg_load aggC sizeC (.tmp 6) rfl rfl X4.out 0 [.int .i64 (k : Int), .bool false, .slice xA xn xc] rfl rfl rfl ?_)
            | ((with_reducible refine KO.out.mono ?_); rintro e5 w5 ⟨A5, c5, n5, hn5, rfl, O5, b5⟩; have C5 := Lib.hid (O4.out.below b5); have F5 := Lib.hid (F4.out.below b5); have X5F : Hid (CFree1 w5 (gv + 1) (.slice A n c) A5) := Lib.hid (O5.free1 HP.out (fun b e => (World.ownsRow.lt O4.out.row b e).2)); have H5 := Lib.hid (H4.out.trans (b5.mono H4.out.size)); have N5 : Hid (BytesS w5 (fun b => gv + 1 ≤ b ∧ b < w5.heap.size ∧ (Value.slice A n c).ownBlock ≠ some b) (.slice A5 n5 c5) e.body) := Lib.hid ((bytesS_cut (Own.toS (S := fun b => w4.heap.size ≤ b) O5 (fun b h => h) HBL.out)).more (fun b h => ⟨by have h1 : w4.heap.size ≤ b := h.1; have := HP.out; omega, h.2, fun e => by have h1 : w4.heap.size ≤ b := h.1; have h2 : b < w4.heap.size := (World.ownsRow.lt O4.out.row b e).2; omega⟩)); have A5' := Lib.hid (A4.out.after b5); have B6 := Lib.hid ((Below.refl w5.heap.size w5).alloc (Nat.le_refl _) (.cells #[.int .i64 (k : Int), .bool false, .slice A5 n5 c5] 46)); have HDS : Hid (∀ y ∈ cs, CDis y ⟨(k : Int), false, A5, n5, c5⟩) := Lib.hid (O5.dis F4.out (Nat.le_refl _) _ _ _ _); have R6 := Lib.hid (row_one w5 ⟨(k : Int), false, A5, n5, c5⟩ (w5.heap.size + 1) (Nat.lt_succ_self _)); have C6 := Lib.hid (C5.out.below B6.out); have F6 := Lib.hid (F5.out.below B6.out); have X6F := Lib.hid (X5F.out.grown (only_of_below B6.out none) (by simp)); have N6 : Hid (BytesS (w5.alloc (.cells #[.int .i64 (k : Int), .bool false, .slice A5 n5 c5] 46)) (fun b => gv + 1 ≤ b ∧ b < (w5.alloc (.cells #[.int .i64 (k : Int), .bool false, .slice A5 n5 c5] 46)).heap.size ∧ (Value.slice A n c).ownBlock ≠ some b) (.slice A5 n5 c5) e.body) := Lib.hid ((N5.out.grown (only_of_below B6.out none) (by simp)).more (fun b h => ⟨h.1, Nat.lt_of_lt_of_le h.2.1 B6.out.size, h.2.2⟩)); have T6 := Lib.hid (H5.out.trans (B6.out.mono H5.out.size)); have HG6 : Hid (gv + 1 ≤ (w5.alloc (.cells #[.int .i64 (k : Int), .bool false, .slice A5 n5 c5] 46)).heap.size) := Lib.hid (Nat.le_trans HP.out (Nat.le_trans b5.size B6.out.size)); have HW6 := Lib.hid (C6.out.row); rw [hM.out.2] at HW6; have A6 := Lib.hid (A5'.out.after B6.out); clear KO b5 O5 hn5 C5 N5 A5' B6)
            | (at_builtin; go_loud (refine wpl_app_row rowC (by decide) rfl (.tmp 36) (.tmp 39) rfl rfl HW6.out ⟨w5.heap.size, 0, none⟩ 1 1 (crow ⟨(k : Int), false, A5, n5, c5⟩) rfl (by decide) rfl (w5.heap.size + 1) R6.out (crow_one _) (by omega) (by decide) HG6.out (n + 1) rfl ?_); intro A10 c10 w10 r10 g10 o10; have C10 := Lib.hid (C6.out.append N6.out r10 (by rw [hM.out.2]) g10 o10); have F10 := Lib.hid (ChFree.append (x := ⟨(k : Int), false, A5, n5, c5⟩) F6.out X6F.out HDS.out g10 o10); have T10 := Lib.hid (T6.out.grown g10 T6.out.size (fun b e => by have := (World.ownsRow.lt C6.out.row b e).1; have := GV.out; omega)); have A10' := Lib.hid (show LArr w10 gv L0 from ⟨(g10.block gv A6.out.lt (fun e => by have := (World.ownsRow.lt C6.out.row gv e.symm).1; omega)).trans A6.out.1, A6.out.2⟩); clear r10 g10 o10))
          exact ⟨⟨k + 1, n + 1, _, _, cs ++ [⟨(k : Int), false, A5, n5, c5⟩], by omega, by omega, rfl, by go_num, Lib.hid (by rw [HN1.out, List.map_append, List.map_cons, List.map_nil, HBD.out]; exact C10.out), F10, Lib.hid ⟨by rw [HN1.out, List.map_append, List.map_append, hM.out.1, List.map_cons, List.map_nil, List.map_cons, List.map_nil]; unfold kg chKg; rw [← HGE.out], by rw [List.length_append, hM.out.2]; rfl⟩, A10', T10⟩, by simp [intOf]; omega⟩
    · obtain rfl : k = 256 := by omega
      clear MR
      go_wp2_with fail
      go_ret
      exact ⟨_, cs, rfl, hO.out.lower (by have := GV.out; omega), hFr.out.lower (by have := GV.out; omega), hM.out.1, hb.out⟩
theorem changes_cat (i : CI) (N : Nat) (P : Int → Option CE) (S : Nat → Prop) (w : World) (h : CAt w i N P S) (hPb : ∀ z e, P z = some e → e.body.length ≤ 100000) :
    Calls Try.prog 24 #[.pointer (some ⟨i.q, 0, none⟩)] w fun e w' => ChgC w (chgTo i.th P 256) e w' :=
  (changes_free i N P S w h hPb).mono fun _ _ ⟨v, cs, h1, h2, _, h3, h4⟩ => ⟨v, cs, h1, h2, h3, h4⟩
end Go.Proofs.Ytppodbijdhcclaa


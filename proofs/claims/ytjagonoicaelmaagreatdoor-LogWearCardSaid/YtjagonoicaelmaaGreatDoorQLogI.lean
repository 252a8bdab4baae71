/- Several texts of the proof, joined: what each has is said at its head. -/
import Derived.Test.YtjagonoicaelmaaGreatDoorQLogH
import Derived.Test.YtjagonoicaelmaaGreatDoorQLogG
import Derived.Test.YtjagonoicaelmaaGreatDoorQLogF
import Derived.Test.YtjagonoicaelmaaGreatDoorQCore
import Derived.Test.YtjagonoicaelmaaGreatDoorQNandA
import Derived.Maps.OwnOps
import Derived.Maps.Views
/- What LogWear's rounds do with a log: six records a round, each segment full at a round's end. No condition. -/
namespace Go.Proofs.YtjagonoicaelmaaGreatDoor
open Go.RowKit
/-- j records of the last segment are written, all other segments are full -/
structure FullW (Bs : List LB) (os : List Nat) (j : Nat) : Prop where
  all : ∀ y b, Bs[y]? = some b → b.seg = true → b.next = 8 ∨ (0 < j ∧ os.getLast? = some y)
  last : 0 < j → ∃ x b, os.getLast? = some x ∧ Bs[x]? = some b ∧ b.seg = true ∧ b.next = 2 + j
theorem FullW.start {Bs : List LB} (h : ∀ b ∈ Bs, b.seg = false) : FullW Bs [] 0 := ⟨fun y b hb hs => (by rw [h b (get_mem hb)] at hs; cases hs), fun q => absurd q (Nat.lt_irrefl 0)⟩
theorem FullW.end_ {Bs : List LB} {os : List Nat} (h : FullW Bs os 6) : FullW Bs os 0 := by
  obtain ⟨x, b, h1, h2, _, h4⟩ := h.last (by omega)
  refine ⟨fun y b' hb' hs => ?_, fun q => absurd q (Nat.lt_irrefl 0)⟩
  rcases h.all y b' hb' hs with q | ⟨_, q⟩
  · exact .inl q
  · rw [h1] at q
    cases q
    rw [h2] at hb'
    cases hb'
    exact .inl h4
theorem wearAt_set {Bs : List LB} {x : Nat} {b b' : LB} (hb : Bs[x]? = some b) (hw : b'.wear = b.wear) (y : Nat) : wearAt (Bs.set x b') y = wearAt Bs y := by
  unfold wearAt
  rw [List.getElem?_set]
  by_cases e : x = y
  · subst e
    rw [if_pos rfl, if_pos (get_lt hb), hb]
    simp [hw]
  · rw [if_neg e]
theorem FullW.new {Bs : List LB} {os : List Nat} {x n : Nat} {b : LB} {r : LRec} (h : FullW Bs os 0) (hb : Bs[x]? = some b) : FullW ((Bs.set x (b.begin_ n)).set x ((b.begin_ n).put r)) (os ++ [x]) 1 := by
  rw [List.set_set]
  have hl : (os ++ [x]).getLast? = some x := by simp
  refine ⟨fun y b' hb' hs => ?_, fun _ => ⟨x, (b.begin_ n).put r, hl, by rw [List.getElem?_set, if_pos rfl, if_pos (get_lt hb)], rfl, rfl⟩⟩
  rcases get_set (get_lt hb) hb' with ⟨rfl, _⟩ | ⟨_, q⟩
  · exact .inr ⟨Nat.one_pos, hl⟩
  · rcases h.all y b' q hs with z | ⟨z, _⟩
    · exact .inl z
    · cases z
theorem FullW.put {Bs : List LB} {os : List Nat} {j x : Nat} {b : LB} {r : LRec} (h : FullW Bs os j) (hj : 0 < j) (hx : os.getLast? = some x) (hb : Bs[x]? = some b) : FullW (Bs.set x (b.put r)) os (j + 1) := by
  obtain ⟨x', b0, h1, h2, h3, h4⟩ := h.last hj
  rw [hx] at h1
  cases h1
  rw [hb] at h2
  cases h2
  refine ⟨fun y b' hb' hs => ?_, fun _ => ⟨x, b.put r, hx, by rw [List.getElem?_set, if_pos rfl, if_pos (get_lt hb)], h3, by show b.next + 1 = _; omega⟩⟩
  rcases get_set (get_lt hb) hb' with ⟨rfl, _⟩ | ⟨_, q⟩
  · exact .inr ⟨by omega, hx⟩
  · rcases h.all y b' q hs with z | ⟨_, z⟩
    · exact .inl z
    · exact .inr ⟨by omega, z⟩
theorem FullW.drop {Bs : List LB} {os : List Nat} {x n : Nat} {b : LB} (h : FullW Bs os 0) (hb : Bs[x]? = some b) (os' : List Nat) : FullW (Bs.set x (LB.fresh n)) os' 0 := by
  refine ⟨fun y b' hb' hs => ?_, fun q => absurd q (Nat.lt_irrefl 0)⟩
  rcases get_set (get_lt hb) hb' with ⟨_, rfl⟩ | ⟨_, q⟩
  · cases hs
  · rcases h.all y b' q hs with z | ⟨z, _⟩
    · exact .inl z
    · cases z
section
variable {w : World} {g h d t : Nat} {a : At} {X : DS} {N C : Nat} {Bs : List LB} {os : List Nat} {num : Nat}
/-- the last segment has no page left -/
theorem FullW.puts (hF : FullW Bs os 0) (w' : World) (hl : Lg w' g h d t a X N C Bs num) (ho : LOk Bs os num) (p : List UInt8) :
    Calls Tryz.prog 44 #[.pointer (some ⟨g, 0, none⟩), .agg (cl p)] w' fun e w2 => e = .returned (.tuple #[.agg (plc 0 0).toArray, .bool false, .int .i64 0]) ∧ Below w'.heap.size w' w2 := by
  cases hz : os.getLast? with
  | none => exact put_none hl ho hz p
  | some z =>
    have hs := (ho.ord.mem z).1 (List.mem_of_getLast? hz)
    obtain ⟨b, hb⟩ : ∃ b, Bs[z]? = some b := ⟨_, List.getElem?_eq_getElem (segAt_lt hs)⟩
    rw [segAt_get hb] at hs
    rcases hF.all z b hb hs with q | ⟨q, _⟩
    · exact put_full hl ho hz hb q p
    · cases q
/-- a round's first record: no block is free -/
theorem wear_none (l : LogS w g h d t a X N C Bs os num) (hF : FullW Bs os 0) (hno : leastTo Bs (N - 6) = none) (v : Value) (L : List (List UInt8)) (B : Nat) (hB : B ≤ w.heap.size) (hv : Parts w B v L) (hr : recOk ((20 : UInt8), L.flatten)) :
    Calls Tryz.prog 21 #[.pointer (some ⟨g, 0, none⟩), .int .u8 20, v] w fun e w' => e = .returned (.tuple #[.agg (plc 0 0).toArray, .int .i64 40]) ∧ Below w.heap.size w w' :=
  append_no l (fun w' hl ho p => hF.puts w' hl ho p) hno 20 v L B hB hv hr
/-- a round's first record -/
theorem wear_new (l : LogS w g h d t a X N C Bs os num) (hF : FullW Bs os 0) {x : Nat} (hno : leastTo Bs (N - 6) = some x) (hnum : num < 1000000) (hC4 : C ≤ 3900) (v : Value) (L : List (List UInt8)) (B : Nat) (hB : B ≤ w.heap.size) (hv : Parts w B v L) (hr : recOk ((20 : UInt8), L.flatten)) :
    Calls Tryz.prog 21 #[.pointer (some ⟨g, 0, none⟩), .int .u8 20, v] w fun e w' => e = .returned (.tuple #[.agg (plc x 2).toArray, .int .i64 0]) ∧ ∃ X' Bs', LogS w' g h d t a X' N (C + 10) Bs' (os ++ [x]) (num + 1) ∧ FullW Bs' (os ++ [x]) 1 ∧ (∀ y, wearAt Bs' y = wearAt Bs y) ∧ Chg w w' (a.log t d g h) := by
  obtain ⟨b, hb⟩ : ∃ b, Bs[x]? = some b := ⟨_, List.getElem?_eq_getElem (by rw [l.lg.len]; exact (leastTo_some _ _ hno).1)⟩
  refine (append_new l (fun w' hl ho p => hF.puts w' hl ho p) hno hb hnum hC4 20 v L B hB hv hr).mono ?_
  rintro e w' ⟨rfl, X', l', c'⟩
  refine ⟨rfl, X', _, l', hF.new hb, fun y => ?_, c'⟩
  rw [List.set_set]
  exact wearAt_set (b' := (b.begin_ (num + 1)).put (20, L.flatten)) hb rfl y
/-- a round's other records -/
theorem wear_in (l : LogS w g h d t a X N C Bs os num) {j : Nat} (hF : FullW Bs os j) (hj : 0 < j) (hj6 : j < 6) (hC4 : C ≤ 3900) (v : Value) (L : List (List UInt8)) (B : Nat) (hB : B ≤ w.heap.size) (hv : Parts w B v L) (hr : recOk ((20 : UInt8), L.flatten)) :
    ∃ x, os.getLast? = some x ∧ x < N - 6 ∧ Calls Tryz.prog 21 #[.pointer (some ⟨g, 0, none⟩), .int .u8 20, v] w fun e w' => e = .returned (.tuple #[.agg (plc x (2 + j)).toArray, .int .i64 0]) ∧ ∃ X' Bs', LogS w' g h d t a X' N (C + 5) Bs' os num ∧ FullW Bs' os (j + 1) ∧ (∀ y, wearAt Bs' y = wearAt Bs y) ∧ Chg w w' (a.log t d g h) := by
  obtain ⟨x, b, h1, h2, h3, h4⟩ := hF.last hj
  refine ⟨x, h1, by have := get_lt h2; rw [l.lg.len] at this; exact this, (append_in l h1 h2 (by omega) hC4 20 v L B hB hv hr).mono ?_⟩
  rintro e w' ⟨rfl, X', l', c'⟩
  exact ⟨by rw [h4], X', _, l', hF.put hj h1 h2, fun y => wearAt_set (b' := b.put (20, L.flatten)) h2 rfl y, c'⟩
/-- a segment is dropped at a round's end -/
theorem wear_drop (l : LogS w g h d t a X N C Bs os num) (hF : FullW Bs os 0) {x : Nat} (hx : x ∈ os) (hw : wearAt Bs x < 1000000) (hC4 : C ≤ 3900) :
    Calls Tryz.prog 14 #[.pointer (some ⟨g, 0, none⟩), .int .i64 (x : Int)] w fun e w' => e = .returned (.int .i64 0) ∧ ∃ X' Bs' os', LogS w' g h d t a X' N (C + 10) Bs' os' num ∧ FullW Bs' os' 0 ∧ (∀ y, wearAt Bs' y = if x = y then wearAt Bs x + 1 else wearAt Bs y) ∧ Chg w w' (a.log t d g h) := by
  have hs := (l.o.ord.mem x).1 hx
  obtain ⟨b, hb⟩ : ∃ b, Bs[x]? = some b := ⟨_, List.getElem?_eq_getElem (segAt_lt hs)⟩
  rw [segAt_get hb] at hs
  rw [wearAt_get hb] at hw
  refine (drop_yes l hb hs hw hC4).mono ?_
  rintro e w' ⟨rfl, X', l', c'⟩
  refine ⟨rfl, X', _, _, l', hF.drop hb _, fun y => ?_, c'⟩
  rw [wearAt_get hb]
  unfold wearAt
  rw [List.getElem?_set]
  by_cases e : x = y
  · subst e
    rw [if_pos rfl, if_pos rfl, if_pos (get_lt hb)]
    rfl
  · rw [if_neg e, if_neg e]
end
theorem opened_wear_at (Bs : List LB) (y : Nat) : wearAt (Bs.map LB.opened) y = wearAt Bs y := by
  unfold wearAt
  rw [List.getElem?_map]
  cases Bs[y]? with
  | none => rfl
  | some b => exact (opened_is b).2.1
/-- what the law counts as the least wear of a free block, of the first k -/
def leastW (f : Nat → Nat) (used : Nat → Bool) : Nat → Nat
  | 0 => 1152921504606846976
  | k + 1 => if used k = true then leastW f used k else min (leastW f used k) (f k)
theorem leastW_le {f : Nat → Nat} {used : Nat → Bool} : ∀ {k y : Nat}, y < k → used y = false → leastW f used k ≤ f y
  | 0, y, h, _ => absurd h (Nat.not_lt_zero _)
  | k + 1, y, h, hu => by
    unfold leastW
    by_cases e : y = k
    · subst e
      rw [if_neg (by rw [hu]; decide)]
      omega
    · have := leastW_le (f := f) (used := used) (k := k) (y := y) (by omega) hu
      split <;> omega
theorem leastW_ge {f : Nat → Nat} {used : Nat → Bool} {m : Nat} : ∀ {k : Nat}, m ≤ 1152921504606846976 → (∀ y, y < k → used y = false → m ≤ f y) → m ≤ leastW f used k
  | 0, hm, _ => hm
  | k + 1, hm, h => by
    have ih := leastW_ge (f := f) (used := used) (k := k) hm (fun y hy hu => h y (by omega) hu)
    unfold leastW
    by_cases e : used k = true
    · rw [if_pos e]; exact ih
    · rw [if_neg e]
      have := h k (by omega) (by simpa using e)
      omega
/-- the block that a log begins is one of the least wear -/
theorem leastW_at {Bs : List LB} {k x : Nat} (h : leastTo Bs k = some x) (hw : wearAt Bs x < 1000000) : leastW (wearAt Bs) (segAt Bs) k = wearAt Bs x := by
  obtain ⟨h1, h2, h3⟩ := leastTo_some _ _ h
  exact Nat.le_antisymm (leastW_le h1 h2) (leastW_ge (by omega) h3)
theorem leastW_lt (f : Nat → Nat) (used : Nat → Bool) : ∀ k, leastW f used k ≤ 1152921504606846976
  | 0 => Nat.le_refl _
  | k + 1 => by
    have := leastW_lt f used k
    unfold leastW
    split <;> omega
theorem order_nodup {Bs : List LB} {os : List Nat} (h : IsOrder Bs os) : os.Nodup := by
  refine List.Pairwise.imp (fun {x y} q e => ?_) h.pw
  rw [e] at q
  exact Nat.lt_irrefl _ q
theorem order_len {Bs : List LB} {os : List Nat} {M : Nat} (h : IsOrder Bs os) (hM : Bs.length = M) : os.length ≤ M := by
  have hp : os.Perm ((List.range M).filter (segAt Bs)) := (List.perm_ext_iff_of_nodup (order_nodup h) (List.nodup_range.filter _)).2 fun x => by
    rw [h.mem]
    rw [List.mem_filter, List.mem_range]
    exact ⟨fun q => ⟨by rw [← hM]; exact segAt_lt q, q⟩, fun q => q.2⟩
  rw [hp.length_eq]
  have := List.length_filter_le (segAt Bs) (List.range M)
  rwa [List.length_range] at this
theorem segRows_at {Bs : List LB} : ∀ {os : List Nat} {rs : List Value} {k x : Nat}, os.length = rs.length → os[k]? = some x → ∃ r, rs[k]? = some r ∧ ∀ E, ((segRows Bs os rs ++ E).drop (k * 4)).take 4 = segRow Bs x r
  | [], _, k, x, _, h => by simp at h
  | _ :: _, [], _, _, h, _ => by cases h
  | y :: os, q :: rs, 0, x, _, h => by
    simp only [List.getElem?_cons_zero, Option.some.injEq] at h
    subst h
    exact ⟨q, rfl, fun E => rfl⟩
  | y :: os, q :: rs, k + 1, x, hl, h => by
    obtain ⟨r, h1, h2⟩ := segRows_at (Bs := Bs) (os := os) (rs := rs) (k := k) (x := x) (by simpa using hl) (by simpa using h)
    refine ⟨r, by simpa using h1, fun E => ?_⟩
    have := h2 E
    rw [show (k + 1) * 4 = k * 4 + 4 by omega]
    exact this
theorem PlsS.one {W : World} {B : Nat} {f : Nat → List Nat} : ∀ {os : List Nat} {rs : List Value}, PlsS W B f os rs → ∀ v ∈ rs, v.oneCell' = true
  | [], [], _, v, hv => by cases hv
  | [], _ :: _, h, _, _ => by cases h
  | _ :: _, [], h, _, _ => by cases h
  | x :: os, r :: rs, h, v, hv => by
    rcases List.mem_cons.1 hv with rfl | q
    · obtain ⟨A, c, rfl, _⟩ := h.1
      rfl
    · exact PlsS.one h.2 v q
/-- a slice of segments, read cell by cell -/
def SegB (w : World) (B : Nat) (A : Option Addr) (Bs : List LB) (os : List Nat) : Prop := ∀ k x, os[k]? = some x → ∃ q cs r, A = some ⟨q, 0, none⟩ ∧ B ≤ q ∧ Blk w q 51 cs ∧ (cs.drop (k * 4)).take 4 = segRow Bs x r ∧ r.oneCell' = true
theorem SegB.of {w : World} {B : Nat} {A : Option Addr} {c : Nat} {Bs : List LB} {os : List Nat} {rs : List Value} {f : Nat → List Nat} (h : w.ownsRow B 51 4 (.slice A os.length c) os.length (segRows Bs os rs)) (hp : PlsS w B f os rs) : SegB w B A Bs os := fun k x hk => by
  obtain ⟨q, E, rfl, h1, _, hB, _, _⟩ := own_blk4 h (by have := get_lt hk; omega)
  obtain ⟨r, h2, h3⟩ := segRows_at (Bs := Bs) hp.length hk
  exact ⟨q, _, r, rfl, h1, hB, h3 E, hp.one r (List.mem_of_getElem? h2)⟩
theorem SegB.chg {w w' : World} {B : Nat} {A : Option Addr} {Bs : List LB} {os : List Nat} {T : Nat → Prop} (h : SegB w B A Bs os) (hc : Chg w w' T) (hT : ∀ k, T k → k < B) : SegB w' B A Bs os := fun k x hk => by
  obtain ⟨q, cs, r, h1, h2, h3, h4, h5⟩ := h k x hk
  exact ⟨q, cs, r, h1, h2, h3.chg hc (fun e => by have := hT q e; omega), h4, h5⟩
theorem aggSg : ∀ w, (isAgg 51).run Tryz.prog w = .ok true w := fun _ => by kernel_rfl
theorem sizeSg : ∀ w, (sizeOf 51).run Tryz.prog w = .ok 4 w := fun _ => by kernel_rfl
theorem zeroSg (w : World) : (zeroValue 51).run Tryz.prog w = .ok (.agg #[.int .i64 0, .int .u64 0, .int .u64 0, .slice none 0 0]) w := by kernel_rfl
theorem least_free0 {Bs : List LB} : ∀ {k : Nat}, leastTo Bs k = none → freeTo Bs k = 0
  | 0, _ => rfl
  | k + 1, h => by
    rw [leastTo_succ] at h
    by_cases e : segAt Bs k = true
    · rw [if_pos e] at h
      unfold freeTo
      rw [least_free0 h, if_pos e]
    · rw [if_neg e] at h
      cases q : leastTo Bs k with
      | none => rw [q] at h; cases h
      | some m => rw [q] at h; simp only at h; split at h <;> cases h
theorem drop_take_head {cs : List Value} {n : Nat} {v : Value} {r : List Value} (h : (cs.drop n).take 4 = v :: r) : cs[n]? = some v := by
  have := congrArg List.head? h
  rw [List.head?_take, if_neg (by decide), List.head?_drop] at this
  simpa using this
end Go.Proofs.YtjagonoicaelmaaGreatDoor

/- A map from ints to bools that the call makes. No condition. -/
namespace Go.Proofs.YtjagonoicaelmaaGreatDoor
open Go.RowKit Go.Maps
section
variable {H : Type} {P : Program} {k e t : TypeId} {w : World} {b n : Nat} {D : DataW H} {ops : Array Oper} {rest : List Oper} {o : Oper} {a : Act} {Q : Exit → Act → World → Prop}
theorem plainElem_bool_inv (he : P.underlying e = some .bool) {v : Value} {z : DataW H × List MemPlace} (h : plainElem P e v = some z) : ∃ c, v = .bool c ∧ z = (.lit (.bool c), []) := by
  unfold plainElem at h
  rw [he] at h
  cases v <;> simp at h
  exact ⟨_, rfl, h.symm⟩
/-- a look-up without 'ok', at bools -/
theorem wpl_lookup_bool (hg : Region.wanted o (yielded ops a.tmps) = true) (m x : Operand) (t : TypeId) (hop : o.op = Op.lookup t m x false)
    (K : Keyed P k) (ht : P.underlying t = some (.map k e)) (he : P.underlying e = some .bool) (hz : (zeroValue e).run P w = .ok (.bool false) w)
    (hm : a.eval m = .map (some b)) (hown : w.ownsMap P k (plainElem P e) b n D) (key : Value) (kl : Lit) (hx : a.eval x = key) (hkey : keyOf P k key = some kl)
    (c : Bool) (hc : D.atKey kl (.lit (.bool false)) = .lit (.bool c)) (hK : wpList P ops Q rest (a.put o.dst (.bool c)) w) :
    wpList P ops Q (o :: rest) a w := by
  refine BigFrame.wpList_want hg fun K' hK' => ?_
  obtain ⟨v, ps, hrun, hv⟩ := hown.lookup K ht hz (plainElem_bool he false) hkey
  obtain ⟨c', rfl, hc'⟩ := plainElem_bool_inv he hv
  rw [hc] at hc'
  simp at hc'
  obtain ⟨rfl, _⟩ := hc'
  unfold Oper.wp
  simp [execOp, hop, hm, hx, hrun, Result.andThen]
  exact hK' _ _ hK
end
theorem keyLaw : Keyed Tryz.prog 3 := int_keyed Tryz.underlying3
theorem zeroBool (w : World) : (zeroValue 4).run Tryz.prog w = .ok (.bool false) w := by kernel_rfl
theorem grown_below {w w' : World} (h : Below w.heap.size w w') : w.grownBy w' none := ⟨h.os, h.tape, h.output, h.size, fun k hk _ => h.block k hk⟩
/-- the map reads as 'is in zs' -/
def InD (D : DataW Unit) (zs : List Int) : Prop := ∀ i : Int, D.atKey (.int .i64 i) (.lit (.bool false)) = .lit (.bool (decide (i ∈ zs)))
theorem InD.nil : InD (.map []) [] := fun _ => rfl
theorem InD.put {D : DataW Unit} {zs : List Int} (h : InD D zs) (hm : IsMap D) (z : Int) : InD (D.put (.int .i64 z) (.lit (.bool true))) (zs ++ [z]) := fun i => by
  by_cases e : i = z
  · subst e
    rw [atKey_put_same hm (by unfold WideAt.IsKeyLit; trivial)]
    simp
  · rw [atKey_put_other (by intro h; exact e (Lit.int.inj h).2), h i]
    simp [e]
theorem keyI {z : Int} (h : (Lit.int .i64 z).wf = true) : keyOf Tryz.prog 3 (.int .i64 z) = some (.int .i64 z) := keyOf_int_mk Tryz.underlying3 h
theorem wfI {z : Int} (h1 : -9223372036854775808 ≤ z) (h2 : z < 9223372036854775808) : (Lit.int .i64 z).wf = true := by
  simp only [Lit.wf, Bool.and_eq_true, IntKind.min, IntKind.max, IntKind.signed, IntKind.bits]
  simp
  omega
end Go.Proofs.YtjagonoicaelmaaGreatDoor

/- The walk of LogWear: it answers true, and changes nothing that was there. Condition: the table of the check sum holds its sixteen numbers. -/

namespace Go.Proofs.YtjagonoicaelmaaGreatDoor
open Go.RowKit Go.Maps
/-- the law's own row of wears -/
def wcs (f : Nat → Nat) : List Value := (List.range 10).map (fun y => Value.int .u64 (f y : Int))
theorem nums_at8 {w w' : World} {B c : Nat} {A : Option Addr} {zs : List Int} (h : Nums w B .i64 (.slice A zs.length c) zs) {q : Nat} (hq : q < zs.length) (hb : Below B w w') : ∃ p, A = some p ∧ ∃ z, w'.cell? (p.add q) = some (.int .i64 z) := by
  obtain ⟨A', cap', ev, _, _, hrow, _⟩ := h
  obtain ⟨rfl, _, rfl⟩ := Value.slice.inj ev
  obtain ⟨p2, rfl, hab, hcell⟩ := hrow.at_ (k := q) (by simpa using hq)
  refine ⟨p2, rfl, zs[q], ?_⟩
  have h1 := (hb.cell (p := p2.add q) (by rw [add_block]; exact hab)).trans hcell
  rw [List.getElem_map] at h1
  exact h1
def wearF (_ : Nat) : LRec := (20, [])
def wst (i y : Nat) : Nat := if y < i then 1 else 0
theorem wcs_get {f : Nat → Nat} {y : Nat} (h : y < 10) : (wcs f)[y]? = some (.int .u64 (f y : Int)) := by
  unfold wcs
  rw [List.getElem?_map, List.getElem?_range h]
  rfl
theorem wcs_congr {f k : Nat → Nat} (h : ∀ y, y < 10 → f y = k y) : wcs f = wcs k := List.map_congr_left fun y hy => by rw [h y (List.mem_range.1 hy)]
theorem wcs_set {f k : Nat → Nat} {x v : Nat} (h : ∀ y, y < 10 → k y = if x = y then v else f y) : (wcs f).set x (.int .u64 (v : Int)) = wcs k := by
  refine List.ext_getElem? fun y => ?_
  rw [List.getElem?_set]
  by_cases hy : y < 10
  · rw [wcs_get hy, wcs_get hy, h y hy]
    by_cases e : x = y
    · subst e
      rw [if_pos rfl, if_pos (by show x < (wcs f).length; unfold wcs; simpa using hy), if_pos rfl]
    · rw [if_neg e, if_neg e]
  · have hl : ∀ q : Nat → Nat, (wcs q).length = 10 := fun q => by unfold wcs; simp
    rw [List.getElem?_eq_none (by rw [hl]; omega), List.getElem?_eq_none (by rw [hl]; omega)]
    split
    · rw [if_neg (by rw [hl]; omega)]
    · rfl
theorem make10 (w : World) : (Instr.makeSlice 60 (.int .i64 10) (.int .i64 10)).run Tryz.prog w = .ok (.slice (some ⟨w.heap.size, 0, none⟩) 10 10) (w.alloc (.cells (wcs (wst 0)).toArray 31)) := by kernel_rfl
theorem own_new_grown {u w w' : World} {mb : Nat} {o : Obj} (_ : u.grownBy w (some mb)) (h : (w.alloc o).grownBy w' (some w.heap.size)) (_ : mb < u.heap.size) : w.grownBy w' (some mb) :=
  ⟨h.os, h.tape, h.output, by have := h.size; simp at this; omega, fun j hj _ => (h.block j (by simp; omega) (by simp; omega)).trans (((Below.refl w.heap.size w).alloc (Nat.le_refl _) o).block j hj)⟩
theorem set_chg (w : World) (g k : Nat) (v : Value) : Chg w (w.setCell ⟨g, k, none⟩ v) (fun j => j = g) := ⟨rfl, rfl, rfl, by simp, fun j _ hj => Below.heap_setCell w _ v j (by simpa using hj)⟩
section
variable {w w' : World} {g h d t : Nat} {a : At} {X : DS} {N C : Nat} {Bs : List LB} {os : List Nat} {num : Nat}
theorem LogS.chg {T : Nat → Prop} (l : LogS w g h d t a X N C Bs os num) (hc : Chg w w' T) (hT : ∀ k, a.log t d g h k ∨ k = 0 → ¬ T k) : LogS w' g h d t a X N C Bs os num := ⟨l.lg.chg hc hT, l.o, l.has, l.clr⟩
/-- the state at a round's start -/
structure WearS (w : World) (g h d t : Nat) (a : At) (X : DS) (gw i : Nat) (Bs : List LB) (os : List Nat) (num : Nat) : Prop where
  log : LogS w g h d t a X 16 (401 + 80 * i) Bs os num
  full : FullW Bs os 0
  wear : ∀ y, y < 10 → 1 ≤ wearAt Bs y ∧ wearAt Bs y ≤ 1 + i
  num : num ≤ i
  row : Blk w gw 31 (wcs (wearAt Bs))
theorem WearS.chg {gw i : Nat} {T : Nat → Prop} (s : WearS w g h d t a X gw i Bs os num) (hc : Chg w w' T) (hT : ∀ k, a.log t d g h k ∨ k = 0 → ¬ T k) (hg : ¬ T gw) : WearS w' g h d t a X gw i Bs os num := ⟨s.log.chg hc hT, s.full, s.wear, s.num, s.row.chg hc hg⟩
theorem WearS.after {gw i : Nat} (s : WearS w g h d t a X gw i Bs os num) (hb : Below w.heap.size w w') : WearS w' g h d t a X gw i Bs os num := ⟨s.log.after hb, s.full, s.wear, s.num, s.row.after hb⟩
theorem WearS.low {gw i : Nat} (s : WearS w g h d t a X gw i Bs os num) : ∀ k, a.log t d g h k ∨ k = 0 ∨ k = gw → k < w.heap.size := fun k hk => by
  rcases hk with q | q | q
  · exact s.log.lg.lt k q
  · rw [q]; exact s.log.lg.dk.tab.lt
  · rw [q]; exact s.row.lt
end
/-- the state within a round, j records are written -/
def WearJ (w : World) (g h d t : Nat) (a : At) (X : DS) (gw i : Nat) (Bs : List LB) (os : List Nat) (num j : Nat) : Prop :=
  (j = 0 ∧ WearS w g h d t a X gw i Bs os num) ∨ (0 < j ∧ ∃ X' Bs' os' num', LogS w g h d t a X' 16 (401 + 80 * i + 10 * j) Bs' os' num' ∧ FullW Bs' os' j ∧ (∀ y, wearAt Bs' y = wearAt Bs y) ∧ num' ≤ i + 1 ∧ Blk w gw 31 (wcs (wearAt Bs)))
theorem wrap_u8z (z : Int) : ∃ b : UInt8, IntKind.u8.wrap z = ((b.toNat : Nat) : Int) := by
  refine ⟨UInt8.ofNat (z % 256).toNat, ?_⟩
  rw [← wrap_u8n (by omega)]
  unfold IntKind.wrap
  simp [IntKind.signed, IntKind.bits]
  omega
set_option maxRecDepth 100000 in
set_option maxHeartbeats 16000000 in
theorem logWear_any (vb : Value) (w : World) (ht : Tab w) (hz : ∃ zs, Nums w w.heap.size .i64 vb zs) :
    Calls Tryz.prog 4 #[vb] w fun e w' => e = .returned (.bool true) ∧ Below w.heap.size w w' := by
  obtain ⟨zs, hv⟩ := hz
  obtain ⟨A, cap, rfl, _, _, _, _⟩ := id hv
  have HV := Lib.hid hv
  have KS := Lib.hid (speaks8_any w ht)
  have KL : Hid (∀ W, Below w.heap.size w W → Calls Tryz.prog 11 #[.int .i64 16] W fun er w' => ∃ g h d t a X, er = .returned (.pointer (some ⟨g, 0, none⟩)) ∧ Begun8 W w' g h d t a X 16) := Lib.hid (fun (W : World) (hW : Below w.heap.size w W) => laid8_any 16 (by omega) W (ht.below hW ht.lt))
  clear ht hv
  by_cases hl : 40 < zs.length
  · have d1 : decide ((40 : Int) < (zs.length : Int)) = true := by simp; omega
    go_enter Tryz.func4, Tryz.ntmps4
    go_wp2_with (go_at_call 9; ((with_reducible refine KS.out.mono ?_); rintro e w1 ⟨rfl, b1⟩; have B1 := Lib.hid b1; clear KS b1))
    go_ret
    exact ⟨rfl, B1.out⟩
  have d1 : decide ((40 : Int) < (zs.length : Int)) = false := by simp; omega
  have HL40 := Lib.hid hl
  clear hl
  go_enter Tryz.func4, Tryz.ntmps4
  go_wp2_with (go_at_call 9; ((with_reducible refine KS.out.mono ?_); rintro e w1 ⟨rfl, b1⟩; have B1 := Lib.hid b1; have K1 := Lib.hid (KL.out w1 b1); clear KS KL b1))
  have mk := make10
  go_wp2_with (first
    | (go_at_call 11; ((with_reducible refine K1.out.mono ?_); rintro e w2 ⟨g, h, d, t, a, X, rfl, hB⟩; have HL1 := Lib.hid (hB.log wearF); have HF := Lib.hid (show ∀ j, a.log t d g h j → w.heap.size ≤ j from fun j hj => Nat.le_trans B1.out.size (hB.far j hj)); have HB1 := Lib.hid (B1.out.trans (hB.below.mono B1.out.size)); have c0 := (hB.log wearF).lg.cells.1; have KD := Lib.hid ((hB.log wearF).lg.dk.len); clear hB K1))
    | (go_at_call 19; ((with_reducible refine KD.out.mono ?_); rintro e w3 ⟨rfl, rfl⟩; clear KD c0)))
  obtain ⟨gw, hgw⟩ : ∃ gw, gw = w2.heap.size := ⟨_, rfl⟩
  have NG : Hid (∀ k, a.log t d g h k ∨ k = 0 → ¬ k = gw) := Lib.hid (fun k hk e => by
    rcases hk with q | q
    · have := HL1.out.lg.lt k q; omega
    · have := HL1.out.lg.dk.tab.lt; omega)
  have FG : Hid (w.heap.size ≤ gw) := Lib.hid (by have := HB1.out.size; omega)
  have R2 : Hid (Blk (w2.alloc (.cells (wcs (wst 0)).toArray 31)) gw 31 (wcs (wst 0))) := Lib.hid (by rw [hgw]; exact Blk.new w2 31 (wcs (wst 0)))
  have b2 : Below w2.heap.size w2 (w2.alloc (.cells (wcs (wst 0)).toArray 31)) := (Below.refl _ _).alloc (Nat.le_refl _) _
  have L2 := Lib.hid (HL1.out.after b2)
  have B2 := Lib.hid (HB1.out.trans (b2.mono HB1.out.size))
  rw [← hgw]
  clear HL1 HB1 B1 b2 hgw mk
  go_loopw [5, 40] (fun _ vi wr => ∃ i : Nat, vi = .int .i64 (i : Int) ∧ i ≤ 10 ∧ Hid (Blk wr gw 31 (wcs (wst i))) ∧ Hid (LogS wr g h d t a X 16 401 (fillB (16 - 6) wearF 0) (fillO 0) (fillN 0)) ∧ Hid (Below w.heap.size w wr)) (fun _ vi _ => 10 - (intOf vi).toNat)
  case atStart => exact ⟨0, rfl, by omega, R2, L2, B2⟩
  case round =>
    obtain ⟨i, rfl, hi, R3, L3, B3⟩ := hrel
    clear R2 L2 B2
    by_cases hlt : i < 10
    · have hc := (R3.out.cell i).trans (wcs_get hlt)
      have hfz := R3.out.free i
      go_wp2
      go_roundw
      case rel => exact ⟨i + 1, by go_num, by omega, Lib.hid (by have := R3.out.set i (.int .u64 1); rw [show (Value.int .u64 1) = .int .u64 ((1 : Nat) : Int) from rfl, wcs_set (k := wst (i + 1)) (fun y _ => by unfold wst; split <;> split <;> (try split) <;> omega)] at this; exact this), Lib.hid (L3.out.chg (set_chg _ _ _ _) NG.out), Lib.hid (B3.out.trans ((set_chg _ _ _ _).below (fun k e => by rw [e]; exact FG.out) B3.out.size))⟩
      case measure => simp [intOf]; omega
    · have hi10 : i = 10 := by omega
      subst hi10
      have S0 := Lib.hid (show WearS wr g h d t a X gw 0 (fillB (16 - 6) wearF 0) (fillO 0) (fillN 0) from ⟨L3.out, FullW.start (fun b hb => by
        obtain ⟨y, hy⟩ := List.mem_iff_getElem?.1 hb
        have hl := get_lt hy
        rw [fillB_length] at hl
        rw [fillB_get wearF 0 hl, fblk_free (Nat.zero_le _)] at hy
        cases hy
        rfl), fun y hy => by rw [fill_wear wearF 0 (by omega)]; omega, by unfold fillN; omega, by
          have := R3.out
          rwa [wcs_congr (k := wearAt (fillB (16 - 6) wearF 0)) (fun y hy => by rw [fill_wear wearF 0 (by omega)]; unfold wst; rw [if_pos hy])] at this⟩)
      clear hi hlt R3 L3
      go_wp2_with fail
      go_loopw [7, 8, 9, 11, 12, 13, 14, 15, 16, 17, 19, 20, 49] (fun _ _ _ _ _ _ _ _ _ _ _ _ vi wr => ∃ i : Nat, vi = .int .i64 (i : Int) ∧ i ≤ zs.length ∧ Hid (∃ X Bs os num, WearS wr g h d t a X gw i Bs os num) ∧ Hid (Below w.heap.size w wr)) (fun _ _ _ _ _ _ _ _ _ _ _ _ vi _ => zs.length - (intOf vi).toNat)
      case atStart => exact ⟨0, rfl, Nat.zero_le _, Lib.hid ⟨_, _, _, _, S0.out⟩, B3⟩
      case round =>
        obtain ⟨i, rfl, hi, HX, hb⟩ := hrel
        obtain ⟨X1, Bs, os, num, hs⟩ := HX.out
        have SS := Lib.hid hs
        clear HX hs S0 B3
        have hi40 : zs.length ≤ 40 := by have := HL40.out; omega
        by_cases hlt : i < zs.length
        · obtain ⟨p, rfl, z, hcell⟩ := nums_at8 HV.out hlt hb.out
          have hmm := @run_makeMap Tryz.prog
          have ND := Lib.hid (SS.out.log.o.ord)
          have HLEN : Hid (os.length ≤ 10) := Lib.hid (order_len SS.out.log.o.ord SS.out.log.lg.len)
          have n5 : Below wr.heap.size wr (wr.alloc (.map #[] 0)) := (Below.refl _ _).alloc (Nat.le_refl _) _
          have KSG := Lib.hid (segments_any (SS.out.log.after n5).lg SS.out.log.o.ord (by have := HLEN.out; omega))
          have N5 := Lib.hid n5
          clear n5
          go_wp2_with (go_at_call 13; ((with_reducible refine KSG.out.mono ?_); rintro e w5 ⟨A5, c5, rs5, rfl, ho5, hp5, b5⟩; have G5 := Lib.hid (SegB.of ho5 hp5); have b5' := Lib.hid b5; clear b5 ho5 hp5 KSG))
          obtain ⟨mb, hmb⟩ : ∃ mb, mb = wr.heap.size := ⟨_, rfl⟩
          have SL := Lib.hid (show ∀ k, a.log t d g h k ∨ k = 0 ∨ k = gw → k < mb from fun k hk => by have := SS.out.low k hk; omega)
          have M5 : Hid (w5.ownsMap (H := Unit) Tryz.prog 3 (plainElem Tryz.prog 4) mb 0 (.map [])) := Lib.hid (by rw [hmb]; exact (World.ownsMap_made wr _ _ _).kept (grown_below b5'.out) (by simp))
          have S5 := Lib.hid (SS.out.after (N5.out.trans (b5'.out.mono N5.out.size)))
          have B5 := Lib.hid (hb.out.trans ((N5.out.trans (b5'.out.mono N5.out.size)).mono hb.out.size))
          have HM := Lib.hid (show w.heap.size ≤ mb ∧ mb < w5.heap.size from ⟨by have := hb.out.size; omega, M5.out.lt⟩)
          have G5 : Hid (SegB w5 (mb + 1) A5 Bs os) := Lib.hid (by have := G5.out; rwa [World.size_alloc, ← hmb] at this)
          have XL := Lib.hid (show ∀ x ∈ os, x < 10 from fun x hx => by have := segAt_lt ((ND.out.mem x).1 hx); rw [SS.out.log.lg.len] at this; exact this)
          rw [← hmb]
          clear hmm N5 b5' SS hb hmb hcell
          go_loopw [11, 57] (fun _ vi wr => ∃ (k : Nat) (D : DataW Unit), vi = .int .i64 (k : Int) ∧ k ≤ os.length ∧ Hid (wr.ownsMap Tryz.prog 3 (plainElem Tryz.prog 4) mb k D) ∧ Hid (InD D ((os.take k).map (fun (x : Nat) => (x : Int)))) ∧ Hid (w5.grownBy wr (some mb))) (fun _ vi _ => os.length - (intOf vi).toNat)
          case atStart => exact ⟨0, _, rfl, Nat.zero_le _, M5, Lib.hid InD.nil, Lib.hid (World.grownBy.refl _ _)⟩
          case round =>
            obtain ⟨k, D, rfl, hk, HO, HD, HG⟩ := hrel
            clear M5
            have hk10 : os.length ≤ 10 := HLEN.out
            by_cases hkl : k < os.length
            · obtain ⟨x, hx⟩ : ∃ x, os[k]? = some x := ⟨_, List.getElem?_eq_getElem hkl⟩
              obtain ⟨q, cs, r, rfl, hq, hB, h4, h1⟩ := (G5.out.chg (Chg.of_grown (S := fun j => j = mb) HG.out (fun k e => Option.some.inj e)) (fun k e => by omega)) k x hx
              have hx10 := XL.out x (List.mem_of_getElem? hx)
              have HT := Lib.hid (List.take_add_one (l := os) (i := k))
              rw [hx] at HT
              obtain ⟨nx, hnx⟩ : ∃ nx, numAt Bs x = nx := ⟨_, rfl⟩
              obtain ⟨vx, hvx⟩ : ∃ vx, wearAt Bs x = vx := ⟨_, rfl⟩
              unfold segRow at h4
              rw [hnx, hvx] at h4
              have HB := Lib.hid hB
              have H4 := Lib.hid h4
              have H1 := Lib.hid h1
              have HXW := Lib.hid (keyI (z := (x : Int)) (wfI (by omega) (by omega)))
              have HIM : Hid (IsMap D) := Lib.hid HO.out.isMap
              have zs0 := zeroSg
              have HC1 := Lib.hid (show ∀ v ∈ [Value.int .i64 (x : Int), .int .u64 (nx : Int), .int .u64 (vx : Int), r], v.oneCell' = true from by
                intro v hv
                simp only [List.mem_cons, List.not_mem_nil, or_false] at hv
                rcases hv with rfl | rfl | rfl | rfl
                · rfl
                · rfl
                · rfl
                · exact H1.out)
              clear hB h4 h1 hq hnx hvx hx
              go_wp2_with (first
                | (with_reducible refine wpl_seg_load aggSg sizeSg (.tmp 59) rfl rfl HB.out (k * 4) _ H4.out rfl rfl ?_)
                | ((with_reducible refine wpl_seg_store sizeSg (.tmp 11) (.tmp 60) rfl rfl (Blk.new wr 51 [.int .i64 0, .int .u64 0, .int .u64 0, .slice none 0 0]) 0 [.int .i64 (x : Int), .int .u64 (nx : Int), .int .u64 (vx : Int), r] rfl (by simp) HC1.out rfl rfl [.int .i64 (x : Int), .int .u64 (nx : Int), .int .u64 (vx : Int), r] rfl ?_); intro w7 R7 g7 s7; have x7 := R7.cell 0; simp only [List.getElem?_cons_zero] at x7; have O7 := Lib.hid ((HO.out.alloc (.cells #[.int .i64 0, .int .u64 0, .int .u64 0, .slice none 0 0] 51)).kept g7 (by have := HO.out.lt; simp; omega)); have G7 := Lib.hid (show w5.grownBy w7 (some mb) from HG.out.trans (own_new_grown HG.out g7 HM.out.2)); clear g7 s7)
                | (at_mapUpdate; refine wpList_mapUpdate_own _ rfl _ _ _ 61 rfl 3 4 keyLaw Tryz.underlying61 _ mb k _ rfl O7.out (by unfold maxLen; omega) _ _ (.int .i64 (x : Int)) rfl rfl HXW.out _ [] (plainElem_bool Tryz.underlying4 _) ?_; intro w8 hown8 hg8; have O8 := Lib.hid hown8; have G8 := Lib.hid (G7.out.trans hg8); clear hown8 hg8))
              go_roundw
              case rel => exact ⟨k + 1, _, by go_num, by omega, O8.out, Lib.hid (by rw [HT.out, List.map_append]; exact HD.out.put HIM.out (x : Int)), G8⟩
              case measure => simp [intOf]; omega
            · obtain rfl : k = os.length := by omega
              have q3 : Chg w5 wr (fun j => j = mb) := Chg.of_grown HG.out (fun k e => Option.some.inj e)
              have S3 := Lib.hid (S5.out.chg q3 (fun k hk e => by have := SL.out k (by rcases hk with h | h; exact .inl h; exact .inr (.inl h)); omega) (fun e => by have := SL.out gw (.inr (.inr rfl)); omega))
              have B3 := Lib.hid (B5.out.trans (q3.below (fun k e => by rw [e]; exact HM.out.1) B5.out.size))
              have HD3 : Hid (InD D (os.map (fun (x : Nat) => (x : Int)))) := Lib.hid (by have := HD.out; rwa [List.take_length] at this)
              have HL3 : Hid (mb < wr.heap.size) := Lib.hid HO.out.lt
              have HU := Lib.hid (show ∀ y : Nat, D.atKey (.int .i64 (y : Int)) (.lit (.bool false)) = .lit (.bool (segAt Bs y)) from fun y => by
                rw [HD3.out (y : Int)]
                congr 2
                rw [Bool.eq_iff_iff, decide_eq_true_iff, ← ND.out.mem y, List.mem_map]
                exact ⟨fun ⟨q, h1, h2⟩ => by rwa [show q = y by omega] at h1, fun h => ⟨y, h, rfl⟩⟩)
              clear q3 G5 S5 B5 HD HG hk hkl HD3
              go_wp2_with fail
              obtain ⟨W3, hW3⟩ : ∃ W3, W3 = wr := ⟨_, rfl⟩
              go_loopw [8, 12, 13, 67] (fun vl _ _ vi wr4 => ∃ k : Nat, vi = .int .i64 (k : Int) ∧ k ≤ 10 ∧ vl = .int .u64 (leastW (wearAt Bs) (segAt Bs) k : Int) ∧ Hid (wr4 = W3)) (fun _ _ _ vi _ => 10 - (intOf vi).toNat)
              case atStart => exact ⟨0, rfl, Nat.zero_le _, rfl, Lib.hid hW3.symm⟩
              case round =>
                obtain ⟨k, rfl, hk, rfl, hWE⟩ := hrel
                obtain rfl := hWE.out
                subst hW3
                clear hWE
                by_cases hk4 : k < 10
                · have hc := (S3.out.row.cell k).trans (wcs_get hk4)
                  obtain ⟨vk, hvk⟩ : ∃ vk, wearAt Bs k = vk := ⟨_, rfl⟩
                  obtain ⟨l0, hl0⟩ : ∃ l0, leastW (wearAt Bs) (segAt Bs) k = l0 := ⟨_, rfl⟩
                  obtain ⟨c, hcs⟩ : ∃ c, segAt Bs k = c := ⟨_, rfl⟩
                  have HL4 : Hid (leastW (wearAt Bs) (segAt Bs) (k + 1) = if c = true then l0 else min l0 vk) := Lib.hid (by rw [← hcs, ← hl0, ← hvk]; rfl)
                  have HAT := Lib.hid (HU.out k)
                  rw [hcs] at HAT
                  rw [hvk] at hc
                  have HKW := Lib.hid (keyI (z := (k : Int)) (wfI (by omega) (by omega)))
                  rw [hl0]
                  clear hvk hl0 hcs
                  cases c with
                  | true =>
                    have HL5 : Hid (leastW (wearAt Bs) (segAt Bs) (k + 1) = l0) := Lib.hid (by rw [HL4.out]; rfl)
                    clear HL4
                    go_wp2_with (at_lookup; refine wpl_lookup_bool (by rfl) (.tmp 72) (.tmp 73) 61 rfl keyLaw Tryz.underlying61 Tryz.underlying4 (zeroBool _) rfl HO.out _ (.int .i64 (k : Int)) rfl HKW.out true HAT.out ?_)
                    go_roundw
                    case rel => exact ⟨k + 1, by go_num, by omega, by rw [HL5.out], Lib.hid (by simp)⟩
                    case measure => simp [intOf]; omega
                  | false =>
                    have HL5 : Hid (leastW (wearAt Bs) (segAt Bs) (k + 1) = min l0 vk) := Lib.hid (by rw [HL4.out]; rfl)
                    clear HL4
                    go_wp2_with (at_lookup; refine wpl_lookup_bool (by rfl) (.tmp 72) (.tmp 73) 61 rfl keyLaw Tryz.underlying61 Tryz.underlying4 (zeroBool _) rfl HO.out _ (.int .i64 (k : Int)) rfl HKW.out false HAT.out ?_)
                    all_goals go_roundw
                    all_goals first
                      | exact ⟨k + 1, by go_num, by omega, by rw [HL5.out]; congr 1; split <;> omega, Lib.hid (by simp)⟩
                      | (simp [intOf]; omega)
                · obtain rfl : k = 10 := by omega
                  clear hk hk4 XL
                  obtain ⟨lw, hlw⟩ : ∃ lw, leastW (wearAt Bs) (segAt Bs) 10 = lw := ⟨_, rfl⟩
                  have HLW := Lib.hid hlw
                  have HWB := Lib.hid S3.out.wear
                  rw [hlw]
                  clear hlw
                  go_wp2_with fail
                  go_loopw [14, 15, 16] (fun vk _ _ wr5 => ∃ j : Nat, vk = .int .i64 (j : Int) ∧ j ≤ 6 ∧ Hid (WearJ wr5 g h d t a X1 gw i Bs os num j) ∧ Hid (wr5.ownsMap Tryz.prog 3 (plainElem Tryz.prog 4) mb os.length D) ∧ Hid (Below w.heap.size w wr5)) (fun vk _ _ _ => 6 - (intOf vk).toNat)
                  case atStart => exact ⟨0, rfl, Nat.zero_le _, Lib.hid (Or.inl ⟨rfl, S3.out⟩), HO, B3⟩
                  case round =>
                    obtain ⟨j, rfl, hj, HJ, HO5, HB5⟩ := hrel
                    clear S3 HO B3
                    by_cases hj6 : j < 6
                    · obtain ⟨b, hbb⟩ := wrap_u8z z
                      obtain ⟨Ls, hP, hfl⟩ := one_part wr b
                      have b1 := Lib.hid (((Below.refl wr.heap.size wr).alloc (Nat.le_refl _) (.cells #[.int .u8 ((b.toNat : Nat) : Int)] 5 (0, 0))).alloc (by simp) (.cells #[.slice (some ⟨wr.heap.size, 0, none⟩) 1 1] 64))
                      have hr : recOk ((20 : UInt8), Ls.flatten) := by rw [hfl]; exact rec_one (by decide) (by decide) (by decide) (by decide) (by decide) (by simp)
                      have HCM := Lib.hid (show ∀ u w', Below w.heap.size w u → Chg u w' (a.log t d g h) → mb < u.heap.size → Below w.heap.size w w' from fun u w' hu c _ => hu.trans (c.below HF.out hu.size))
                      have HMK := Lib.hid (show ∀ (u w' : World), u.ownsMap (H := Unit) Tryz.prog 3 (plainElem Tryz.prog 4) mb os.length D → Chg u w' (a.log t d g h) → w'.ownsMap (H := Unit) Tryz.prog 3 (plainElem Tryz.prog 4) mb os.length D from fun u w' ho c => by
                        obtain ⟨es, cl, hb, r⟩ := id ho
                        exact ⟨es, cl, (c.block mb ho.lt (fun e => by have := SL.out mb (.inl e); omega)).trans hb, r⟩)
                      have NLG := Lib.hid (show ¬ a.log t d g h gw from fun e => NG.out gw (.inl e) rfl)
                      have O1 := Lib.hid (HO5.out.kept (grown_below b1.out) (by simp))
                      have B1 := Lib.hid (HB5.out.trans (b1.out.mono HB5.out.size))
                      have hwl : leastW (wearAt Bs) (segAt Bs) 10 = lw := HLW.out
                      rcases HJ.out with ⟨hj0, hS⟩ | ⟨hj0, X', Bs', os', num', hl', hF', hw', hn', hB'⟩
                      · have HJ0 := Lib.hid hj0
                        clear hj0
                        have S1 := Lib.hid (hS.after b1.out)
                        cases hle : leastTo Bs (16 - 6) with
                        | none =>
                          have KA := Lib.hid (wear_none S1.out.log S1.out.full hle _ Ls (wr.heap.size + 2) (by simp) hP hr)
                          have KF := Lib.hid (fun (u : World) (hu : Below _ _ u) => free_any ((S1.out.log.after hu).after ((Below.refl u.heap.size u).alloc (Nat.le_refl _) (.cells #[.int .i64 0, .int .i64 0] 44))).lg)
                          rw [least_free0 hle] at KF
                          have HPV := Lib.hid (show (plc 0 0).toArray = #[.int .i64 0, .int .i64 0] from rfl)
                          rw [HPV.out] at KA
                          clear hS hP hfl hr hle HJ
                          go_wp2_with (first
                            | (go_at_call 21; ((with_reducible refine KA.out.mono ?_); rintro e w6 ⟨rfl, b6⟩; have B6 := Lib.hid (B1.out.trans (b6.mono B1.out.size)); have K6 := Lib.hid (KF.out w6 b6); clear KA KF b6))
                            | (go_at_call 18; ((with_reducible refine K6.out.mono ?_); rintro e w7 ⟨rfl, b7⟩; have B7 := Lib.hid ((B6.out.alloc B6.out.size (.cells #[.int .i64 0, .int .i64 0] 44)).trans (b7.mono (B6.out.alloc B6.out.size (.cells #[.int .i64 0, .int .i64 0] 44)).size)); clear K6 b7)))
                          go_ret
                          exact ⟨rfl, B7.out⟩
                        | some x =>
                          have hx10 : x < 10 := by have := (leastTo_some _ _ hle).1; omega
                          have hxs := (leastTo_some _ _ hle).2.1
                          have hxw := leastW_at hle (by have := (S1.out.wear x hx10).2; omega)
                          rw [hwl] at hxw
                          have KA := Lib.hid (wear_new S1.out.log S1.out.full hle (by have := S1.out.num; omega) (by omega) _ Ls (wr.heap.size + 2) (by simp) hP hr)
                          have HPV := Lib.hid (show (plc x 2).toArray = #[.int .i64 (x : Int), .int .i64 2] from rfl)
                          rw [HPV.out] at KA
                          have HN1 := Lib.hid S1.out.num
                          have R1 := Lib.hid S1.out.row
                          have HX := Lib.hid hxw
                          have HUX := Lib.hid (HU.out x)
                          rw [hxs] at HUX
                          have HKX := Lib.hid (keyI (z := (x : Int)) (wfI (by omega) (by omega)))
                          clear hS hP hfl hr hle HJ hwl hxw hxs
                          go_wp2_with (first
                            | (go_at_call 21; ((with_reducible refine KA.out.mono ?_); rintro e w6 ⟨rfl, X6, Bs6, l6, f6, e6, c6⟩; have L6 := Lib.hid l6; have F6 := Lib.hid f6; have E6 := Lib.hid e6; have R6 := Lib.hid (R1.out.chg c6 NLG.out); have O6 := Lib.hid (HMK.out _ _ O1.out c6); have B6 := Lib.hid (HCM.out _ _ B1.out c6 O1.out.lt); have c7 := ((R6.out.alloc (.cells #[.int .i64 (x : Int), .int .i64 2] 44)).cell x).trans (wcs_get hx10); rw [← HX.out] at c7; clear KA l6 f6 e6 c6))
                            | (at_lookup; refine wpl_lookup_bool (by rfl) (.tmp 114) (.tmp 116) 61 rfl keyLaw Tryz.underlying61 Tryz.underlying4 (zeroBool _) rfl (O6.out.alloc _) _ (.int .i64 (x : Int)) rfl HKX.out false HUX.out ?_))
                          refine ⟨?_, ?measure⟩
                          (repeat apply Exists.intro)
                          refine ⟨?rel, rfl⟩
                          case rel => exact ⟨j + 1, by go_num, by omega, Lib.hid (Or.inr ⟨by omega, X6, Bs6, _, _, (L6.out.after ((Below.refl _ _).alloc (Nat.le_refl _) _)).more (by omega), by rw [HJ0.out]; exact F6.out, E6.out, by have := HN1.out; omega, R6.out.alloc _⟩), Lib.hid (O6.out.alloc _), Lib.hid (B6.out.alloc B6.out.size _)⟩
                          case measure => simp [intOf]; omega
                      · obtain ⟨x, hx, hx10, hcall⟩ := wear_in (hl'.after b1.out) hF' hj0 hj6 (by omega) _ Ls (wr.heap.size + 2) (by simp) hP hr
                        obtain ⟨pg, hpg⟩ : ∃ pg, 2 + j = pg := ⟨_, rfl⟩
                        have HPV := Lib.hid (show (plc x pg).toArray = #[.int .i64 (x : Int), .int .i64 (pg : Int)] from rfl)
                        rw [hpg, HPV.out] at hcall
                        have KA := Lib.hid hcall
                        have hpg2 : ¬ (pg : Int) = 2 := by omega
                        have R1 := Lib.hid (hB'.after b1.out)
                        have HW1 := Lib.hid hw'
                        have HN1 := Lib.hid hn'
                        clear hl' hF' hw' hn' hB' hcall hpg hx HJ hP hfl hr hwl
                        go_wp2_with (go_at_call 21; ((with_reducible refine KA.out.mono ?_); rintro e w6 ⟨rfl, X6, Bs6, l6, f6, e6, c6⟩; have L6 := Lib.hid l6; have F6 := Lib.hid f6; have E6 := Lib.hid e6; have R6 := Lib.hid (R1.out.chg c6 NLG.out); have O6 := Lib.hid (HMK.out _ _ O1.out c6); have B6 := Lib.hid (HCM.out _ _ B1.out c6 O1.out.lt); clear KA l6 f6 e6 c6))
                        refine ⟨?_, ?measure⟩
                        (repeat apply Exists.intro)
                        refine ⟨?rel, rfl⟩
                        case rel => exact ⟨j + 1, by go_num, by omega, Lib.hid (Or.inr ⟨by omega, X6, Bs6, _, _, (L6.out.after ((Below.refl _ _).alloc (Nat.le_refl _) _)).more (by omega), F6.out, fun y => (E6.out y).trans (HW1.out y), HN1.out, R6.out.alloc _⟩), Lib.hid (O6.out.alloc _), Lib.hid (B6.out.alloc B6.out.size _)⟩
                        case measure => simp [intOf]; omega
                    · have hj6e : j = 6 := by omega
                      obtain ⟨X', Bs', os', num', hl', hF', hw', hn', hB'⟩ : ∃ X' Bs' os' num', LogS wr g h d t a X' 16 (401 + 80 * i + 60) Bs' os' num' ∧ FullW Bs' os' 6 ∧ (∀ y, wearAt Bs' y = wearAt Bs y) ∧ num' ≤ i + 1 ∧ Blk wr gw 31 (wcs (wearAt Bs)) := by
                        rcases HJ.out with ⟨q, _⟩ | ⟨_, X', Bs', os', num', q1, q2, q3⟩
                        · omega
                        · rw [hj6e] at q1 q2
                          exact ⟨X', Bs', os', num', q1, q2, q3⟩
                      have hlen0 : 0 < os'.length := by
                        obtain ⟨x, _, hx, _⟩ := hF'.last (by omega)
                        cases os' with
                        | nil => cases hx
                        | cons _ _ => simp
                      have hlen1 := order_len hl'.o.ord hl'.lg.len
                      have HR6 := Lib.hid hB'
                      have HF6 := Lib.hid hF'.end_
                      have HW6 := Lib.hid hw'
                      have HN6 := Lib.hid hn'
                      have HL6 := Lib.hid hl'
                      have KSG := Lib.hid (segments_any hl'.lg hl'.o.ord (by omega))
                      clear hl' hF' hw' hn' hB' HJ HO5 HLW hj HL3 HU
                      have HJ6 := Lib.hid hj6e
                      clear hj6e
                      go_wp2_with (go_at_call 13; ((with_reducible refine KSG.out.mono ?_); rintro e w7 ⟨A7, c7, rs7, rfl, ho7, hp7, b7⟩; have G7 := Lib.hid (SegB.of ho7 hp7); have L7 := Lib.hid (HL6.out.after b7); have R7 := Lib.hid (HR6.out.after b7); have B7 := Lib.hid (HB5.out.trans (b7.mono HB5.out.size)); have Z7 := Lib.hid (show wr.heap.size ≤ w7.heap.size from b7.size); clear b7 ho7 hp7 KSG HL6 HR6 HB5))
                      go_loopw [19, 124] (fun _ vi wr8 => ∃ k : Nat, vi = .int .i64 (k : Int) ∧ k ≤ os'.length ∧ Hid (Below w7.heap.size w7 wr8)) (fun _ vi _ => os'.length - (intOf vi).toNat)
                      case atStart => exact ⟨0, rfl, Nat.zero_le _, Lib.hid (Below.refl _ _)⟩
                      case round =>
                        obtain ⟨k, rfl, hk, HB8⟩ := hrel
                        by_cases hkl : k < os'.length
                        · obtain ⟨x, hx⟩ : ∃ x, os'[k]? = some x := ⟨_, List.getElem?_eq_getElem hkl⟩
                          obtain ⟨q, cs, r, rfl, hq, hB, h4, h1⟩ := G7.out k x hx
                          have hB := hB.after HB8.out
                          have hx10 : x < 10 := by have := segAt_lt ((L7.out.o.ord.mem x).1 (List.mem_of_getElem? hx)); rw [L7.out.lg.len] at this; exact this
                          have hc : (wcs (wearAt Bs))[x]? = _ := wcs_get hx10
                          rw [← HW6.out x] at hc
                          obtain ⟨nx, hnx⟩ : ∃ nx, numAt Bs' x = nx := ⟨_, rfl⟩
                          obtain ⟨vx, hvx⟩ : ∃ vx, wearAt Bs' x = vx := ⟨_, rfl⟩
                          unfold segRow at h4
                          rw [hnx, hvx] at h4
                          rw [hvx] at hc
                          have HB := Lib.hid hB
                          have H4 := Lib.hid h4
                          have HCW := Lib.hid hc
                          have HC1 := Lib.hid (show ∀ v ∈ [Value.int .i64 (x : Int), .int .u64 (nx : Int), .int .u64 (vx : Int), r], v.oneCell' = true from by
                            intro v hv
                            simp only [List.mem_cons, List.not_mem_nil, or_false] at hv
                            rcases hv with rfl | rfl | rfl | rfl
                            · rfl
                            · rfl
                            · rfl
                            · exact h1)
                          have zs0 := zeroSg
                          have hx10i : (x : Int) < 10 := by omega
                          clear hB h4 hq hnx hvx hx hc h1
                          go_wp2_with (first
                            | (with_reducible refine wpl_seg_load aggSg sizeSg (.tmp 126) rfl rfl HB.out (k * 4) _ H4.out rfl rfl ?_)
                            | ((with_reducible refine wpl_seg_store sizeSg (.tmp 19) (.tmp 127) rfl rfl (Blk.new wr 51 [.int .i64 0, .int .u64 0, .int .u64 0, .slice none 0 0]) 0 [.int .i64 (x : Int), .int .u64 (nx : Int), .int .u64 (vx : Int), r] rfl (by simp) HC1.out rfl rfl [.int .i64 (x : Int), .int .u64 (nx : Int), .int .u64 (vx : Int), r] rfl ?_); intro w9 R9 g9 s9; have y0 := R9.cell 0; have y2 := R9.cell 2; simp only [List.getElem?_cons_zero, List.getElem?_cons_succ] at y0 y2; have B9 := Lib.hid ((HB8.out.alloc HB8.out.size (.cells #[.int .i64 0, .int .u64 0, .int .u64 0, .slice none 0 0] 51)).grown g9 (by simp; exact Nat.le_succ_of_le HB8.out.size) (fun k e => by have hh := HB8.out.size; simp at e; omega)); have cw := ((R7.out.after B9.out).cell x).trans HCW.out; clear g9 s9))
                          go_region
                          go_wp2_with fail
                          all_goals exact ⟨⟨k + 1, by go_num, by omega, Lib.hid B9.out.drew⟩, by simp [intOf]; omega⟩
                        · have hke : k = os'.length := by omega
                          clear hk hkl
                          by_cases hz1 : bits .and .i64 z 1 = 0
                          · obtain ⟨m, hm, hmlt⟩ := low8 (z / 2) hlen0
                            obtain ⟨x, hx⟩ : ∃ x, os'[m]? = some x := ⟨_, List.getElem?_eq_getElem hmlt⟩
                            obtain ⟨q, cs, r, rfl, hq, hB, h4, h1⟩ := G7.out m x hx
                            have hB := hB.after HB8.out
                            have hxm := List.mem_of_getElem? hx
                            have hx10 : x < 10 := by have := segAt_lt ((L7.out.o.ord.mem x).1 hxm); rw [L7.out.lg.len] at this; exact this
                            unfold segRow at h4
                            have hcx := (hB.cell (m * 4)).trans (drop_take_head h4)
                            have hmi : (m : Int) < (os'.length : Int) := by omega
                            obtain ⟨vx, hvx⟩ : ∃ vx, wearAt Bs x = vx := ⟨_, rfl⟩
                            have hvb := HWB.out x hx10
                            rw [hvx] at hvb
                            have hc := ((R7.out.after HB8.out).cell x).trans (wcs_get hx10)
                            rw [hvx] at hc
                            have KD := Lib.hid (wear_drop (L7.out.after HB8.out) HF6.out hxm (by rw [HW6.out, hvx]; omega) (by omega))
                            have R8 := Lib.hid (R7.out.after HB8.out)
                            have HVX := Lib.hid hvx
                            have NLG := Lib.hid (show ¬ a.log t d g h gw from fun e => NG.out gw (.inl e) rfl)
                            have B8 := Lib.hid (B7.out.trans (HB8.out.mono B7.out.size))
                            clear hB h4 h1 hq hx hc hvx hmlt
                            go_wp2_with (go_at_call 14; ((with_reducible refine KD.out.mono ?_); rintro e w9 ⟨rfl, X9, Bs9, os9, l9, f9, e9, c9⟩; have L9 := Lib.hid l9; have F9 := Lib.hid f9; have E9 := Lib.hid e9; have R9 := Lib.hid (R8.out.chg c9 NLG.out); have B9 := Lib.hid (B8.out.trans (c9.below HF.out B8.out.size)); have y9 := (R9.out.cell x).trans (wcs_get hx10); rw [HVX.out] at y9; have z9 := R9.out.free x; clear KD l9 f9 e9 c9))
                            refine ⟨?_, ?measure⟩
                            (repeat apply Exists.intro)
                            refine ⟨?rel, rfl⟩
                            case rel => exact ⟨i + 1, by go_num, by omega, Lib.hid ⟨X9, Bs9, os9, num', (L9.out.chg (set_chg _ _ _ _) NG.out).more (by omega), F9.out, fun y hy => by rw [E9.out y, HW6.out x, HW6.out y, HVX.out]; have := HWB.out y hy; split <;> omega, HN6.out, by have := R9.out.set x (.int .u64 ((vx + 1 : Nat) : Int)); rw [wcs_set (k := wearAt Bs9) (fun y _ => by rw [E9.out y, HW6.out x, HW6.out y, HVX.out])] at this; exact this⟩, Lib.hid (B9.out.trans ((set_chg _ _ _ _).below (fun k e => by rw [e]; exact FG.out) B9.out.size))⟩
                            case measure => simp [intOf]; omega
                          · go_wp2_with fail
                            refine ⟨?_, ?measure⟩
                            (repeat apply Exists.intro)
                            refine ⟨?rel, rfl⟩
                            case rel => exact ⟨i + 1, by go_num, by omega, Lib.hid ⟨_, Bs', os', num', (L7.out.after HB8.out).more (by omega), HF6.out, fun y hy => by rw [HW6.out y]; have := HWB.out y hy; omega, HN6.out, by rw [wcs_congr (fun y _ => HW6.out y)]; exact R7.out.after HB8.out⟩, Lib.hid (B7.out.trans (HB8.out.mono B7.out.size))⟩
                            case measure => simp [intOf]; omega
        · have hie : i = zs.length := by omega
          have c0 := SS.out.log.lg.cells.1
          have c1 := SS.out.log.lg.dk.count.1
          have KAG := Lib.hid (again8_any SS.out.log.lg.dk SS.out.log.lg.len SS.out.log.o SS.out.log.has)
          have HO5 := Lib.hid (SS.out.log.o.opened).ord
          have HLN := Lib.hid (order_len SS.out.log.o.ord SS.out.log.lg.len)
          have HXL := Lib.hid (show ∀ x ∈ os, x < 10 from fun x hx => by have := segAt_lt ((SS.out.log.o.ord.mem x).1 hx); rw [SS.out.log.lg.len] at this; exact this)
          have R5 := Lib.hid SS.out.row
          clear hi SS
          go_wp2_with (first
            | (go_at_call 20; ((with_reducible refine KAG.out.mono ?_); rintro e w6 ⟨g6, h6, d6, t6, rfl, l6, b6⟩; have KSG := Lib.hid (segments_any l6 HO5.out (by have := HLN.out; omega)); have B6 := Lib.hid (hb.out.trans (b6.mono hb.out.size)); have R6 := Lib.hid (R5.out.after b6); clear KAG l6 b6))
            | (go_at_call 13; ((with_reducible refine KSG.out.mono ?_); rintro e w7 ⟨A7, c7, rs7, rfl, ho7, hp7, b7⟩; have G7 := Lib.hid (SegB.of ho7 hp7); have R7 := Lib.hid (R6.out.after b7); have B7 := Lib.hid (B6.out.trans (b7.mono B6.out.size)); clear b7 ho7 hp7 KSG R6 B6)))
          clear c0 c1 R5 hb
          go_loopw [23, 174] (fun _ vi wr8 => ∃ k : Nat, vi = .int .i64 (k : Int) ∧ k ≤ os.length ∧ Hid (Below w7.heap.size w7 wr8)) (fun _ vi _ => os.length - (intOf vi).toNat)
          case atStart => exact ⟨0, rfl, Nat.zero_le _, Lib.hid (Below.refl _ _)⟩
          case round =>
            obtain ⟨k, rfl, hk, HB8⟩ := hrel
            have hl10 : os.length ≤ 10 := HLN.out
            by_cases hkl : k < os.length
            · obtain ⟨x, hx⟩ : ∃ x, os[k]? = some x := ⟨_, List.getElem?_eq_getElem hkl⟩
              obtain ⟨q, cs, r, rfl, hq, hB, h4, h1⟩ := G7.out k x hx
              have hB := hB.after HB8.out
              have hx10 : x < 10 := HXL.out x (List.mem_of_getElem? hx)
              have hc : (wcs (wearAt Bs))[x]? = _ := wcs_get hx10
              unfold segRow at h4
              rw [opened_wear_at] at h4
              obtain ⟨nx, hnx⟩ : ∃ nx, numAt (Bs.map LB.opened) x = nx := ⟨_, rfl⟩
              obtain ⟨vx, hvx⟩ : ∃ vx, wearAt Bs x = vx := ⟨_, rfl⟩
              rw [hnx, hvx] at h4
              rw [hvx] at hc
              have HB := Lib.hid hB
              have H4 := Lib.hid h4
              have HCW := Lib.hid hc
              have HC1 := Lib.hid (show ∀ v ∈ [Value.int .i64 (x : Int), .int .u64 (nx : Int), .int .u64 (vx : Int), r], v.oneCell' = true from by
                intro v hv
                simp only [List.mem_cons, List.not_mem_nil, or_false] at hv
                rcases hv with rfl | rfl | rfl | rfl
                · rfl
                · rfl
                · rfl
                · exact h1)
              have zs0 := zeroSg
              have hx10i : (x : Int) < 10 := by omega
              clear hB h4 hq hnx hvx hx hc h1
              go_wp2_with (first
                | (with_reducible refine wpl_seg_load aggSg sizeSg (.tmp 176) rfl rfl HB.out (k * 4) _ H4.out rfl rfl ?_)
                | ((with_reducible refine wpl_seg_store sizeSg (.tmp 23) (.tmp 177) rfl rfl (Blk.new wr 51 [.int .i64 0, .int .u64 0, .int .u64 0, .slice none 0 0]) 0 [.int .i64 (x : Int), .int .u64 (nx : Int), .int .u64 (vx : Int), r] rfl (by simp) HC1.out rfl rfl [.int .i64 (x : Int), .int .u64 (nx : Int), .int .u64 (vx : Int), r] rfl ?_); intro w9 R9 g9 s9; have y0 := R9.cell 0; have y2 := R9.cell 2; simp only [List.getElem?_cons_zero, List.getElem?_cons_succ] at y0 y2; have B9 := Lib.hid ((HB8.out.alloc HB8.out.size (.cells #[.int .i64 0, .int .u64 0, .int .u64 0, .slice none 0 0] 51)).grown g9 (by simp; exact Nat.le_succ_of_le HB8.out.size) (fun k e => by have hh := HB8.out.size; simp at e; omega)); have cw := ((R7.out.after B9.out).cell x).trans HCW.out; clear g9 s9))
              go_region
              go_wp2_with fail
              all_goals exact ⟨⟨k + 1, by go_num, by omega, Lib.hid B9.out.drew⟩, by simp [intOf]; omega⟩
            · go_wp2_with fail
              go_ret
              exact ⟨rfl, B7.out.trans (HB8.out.mono B7.out.size)⟩
end Go.Proofs.YtjagonoicaelmaaGreatDoor


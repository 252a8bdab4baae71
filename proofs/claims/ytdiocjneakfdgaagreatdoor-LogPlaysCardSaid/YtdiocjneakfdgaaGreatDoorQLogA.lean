/- Several texts of the proof, joined: what each has is said at its head. -/
import Derived.Test.YtdiocjneakfdgaaGreatDoorQDiskE
import Derived.Test.YtdiocjneakfdgaaGreatDoorQSortA
import Derived.Test.YtdiocjneakfdgaaGreatDoorQWear
/- A log's plain state: what is known of its blocks, what stands in their pages, though one bit of each may have turned; plain facts. -/
namespace Go.Proofs.YtdiocjneakfdgaaGreatDoor
open Go.RowKit
/-- a record: its kind, its body -/
abbrev LRec := UInt8 × List UInt8
/-- a block of a log -/
structure LB where
  wear : Nat
  clr : Bool
  seg : Bool
  num : Nat
  next : Nat
  recs : List LRec
def brow (b : LB) : List Value := [.int .u64 (b.wear : Int), .bool b.clr, .bool b.seg, .int .u64 (b.num : Int), .int .i64 (b.next : Int)]
theorem brow_len (b : LB) : (brow b).length = 5 := rfl
theorem brow_one (b : LB) : ∀ v ∈ brow b, v.oneCell' = true := by simp [brow, Value.oneCell']
def recP (r : LRec) : List UInt8 := FM.page r.1 r.2
def numP (k : UInt8) (n : Nat) : List UInt8 := FM.page k (numB 8 n)
def LB.pages (b : LB) : List (List UInt8) := numP 2 b.wear :: (if b.seg = true then numP 3 b.num :: b.recs.map recP else [])
/-- a record's kind, as a log takes it; its body fits -/
def recOk (r : LRec) : Prop := (r.1 ≠ 0 ∧ r.1 ≠ 255 ∧ r.1 ≠ 1 ∧ r.1 ≠ 2 ∧ r.1 ≠ 3) ∧ r.2.length ≤ 240
structure LB.ok (b : LB) : Prop where
  wear : b.wear < 18446744073709551616
  num : b.num < 18446744073709551616
  recs : b.recs.length ≤ 6
  kinds : ∀ r ∈ b.recs, recOk r
  free : b.seg = false → b.recs = []
  len : b.seg = true → b.next = 2 + b.recs.length ∨ b.next = 8
/-- a page that holds a record -/
def IsRec (p : List UInt8) : Prop := ∃ k body, body.length ≤ 240 ∧ k ≠ 0 ∧ k ≠ 255 ∧ p = FM.page k body
/-- a page, or that page with one bit turned -/
def Near (p q : List UInt8) : Prop := p = q ∨ ∃ x, x < 2064 ∧ p = HM.fl q x
theorem IsRec.length {p : List UInt8} (h : IsRec p) : p.length = 258 := by
  obtain ⟨k, body, hb, _, _, rfl⟩ := h
  exact FM.page_length _ _ hb
theorem numP_rec (k : UInt8) (h0 : k ≠ 0) (h1 : k ≠ 255) (n : Nat) : IsRec (numP k n) := ⟨k, numB 8 n, by rw [numB_length]; omega, h0, h1, rfl⟩
theorem recP_rec {r : LRec} (h : recOk r) : IsRec (recP r) := ⟨r.1, r.2, h.2, h.1.1, h.1.2.1, rfl⟩
theorem near_read {p : List UInt8} {k : UInt8} {body : List UInt8} (hb : body.length ≤ 240) (h0 : k ≠ 0) (h1 : k ≠ 255) (h : Near p (FM.page k body)) : ∃ m, m ≤ 1 ∧ FM.readM p = (k, body, m, 0) := by
  rcases h with rfl | ⟨x, hx, rfl⟩
  · exact ⟨0, by omega, FM.turn_none hb h0 h1⟩
  · exact ⟨1, by omega, FM.turn_one hb h0 h1 hx⟩
theorem near_mend {p q : List UInt8} (hq : IsRec q) (h : Near p q) : mendP p = q := by
  obtain ⟨k, body, hb, h0, h1, rfl⟩ := hq
  obtain ⟨m, _, e⟩ := near_read hb h0 h1 h
  unfold mendP
  rw [e, if_pos rfl]
  show (FM.writeM k body).1 = _
  unfold FM.writeM
  rw [if_neg (by rintro (q | q | q) <;> first | exact h0 q | exact h1 q | omega)]
theorem near_blank {p q : List UInt8} (hq : IsRec q) (h : Near p q) : FM.blank p = false := by
  obtain ⟨k, body, hb, h0, h1, rfl⟩ := hq
  obtain ⟨m, _, e⟩ := near_read hb h0 h1 h
  cases hbl : FM.blank p with
  | false => rfl
  | true =>
    exfalso
    unfold FM.readM at e
    rw [if_pos hbl] at e
    have e2 := congrArg (fun x => x.2.2.2) e
    simp at e2
theorem ff_blank : FM.blank NM.ff = true := by kernel_rfl
theorem ff_read : FM.readM NM.ff = (0, [], 0, 20) := by
  unfold FM.readM
  rw [if_pos ff_blank]
theorem ff_length : NM.ff.length = 258 := by kernel_rfl
/-- a block holds these pages, but for one bit in each, and takes the next one -/
structure HasN (B : Bk) (L : List (List UInt8)) : Prop where
  nx : B.nx = L.length
  pg : ∀ i, i < L.length → Near (B.pg.getD i []) (L.getD i [])
  ff : ∀ i, L.length ≤ i → i < 8 → B.pg.getD i [] = NM.ff
theorem HasN.blank : HasN Bk.blank [] := ⟨rfl, fun _ h => absurd h (Nat.not_lt_zero _), fun _ _ h => ffs_at h⟩
theorem HasN.fits {B B' : Bk} {L : List (List UInt8)} {p : List UInt8} (h : HasN B L) (hs : ∀ q ∈ L, IsRec q) (hf : Fits B B' L.length (some p)) : HasN B' (L ++ [p]) ∧ B'.pg.getD L.length [] = p := by
  obtain ⟨f1, f2, f3, f4⟩ := hf
  refine ⟨⟨by rw [f1, List.length_append]; rfl, fun i hi => ?_, fun i h1 h2 => ?_⟩, f3 p rfl⟩
  · rw [List.length_append, List.length_singleton] at hi
    rcases Nat.lt_or_ge i L.length with c | c
    · have e : (L ++ [p]).getD i [] = L.getD i [] := by rw [List.getD_eq_getElem?_getD, List.getElem?_append_left c, List.getD_eq_getElem?_getD]
      rw [e]
      rcases f2 i c with q | q
      · rw [q]; exact h.pg i c
      · rw [q]
        exact .inl (near_mend (hs _ (getD_mem c)) (h.pg i c))
    · have e : i = L.length := by omega
      subst e
      rw [f3 p rfl, List.getD_eq_getElem?_getD, List.getElem?_append_right (Nat.le_refl _), Nat.sub_self]
      exact .inl rfl
  · rw [List.length_append, List.length_singleton] at h1
    exact f4 i (by omega) h2 (h.ff i (by omega) h2)
theorem LB.ok.isRec {b : LB} (h : b.ok) : ∀ q ∈ b.pages, IsRec q := by
  intro q hq
  unfold LB.pages at hq
  rcases List.mem_cons.1 hq with rfl | hq
  · exact numP_rec 2 (by decide) (by decide) _
  · split at hq
    · rcases List.mem_cons.1 hq with rfl | hq
      · exact numP_rec 3 (by decide) (by decide) _
      · obtain ⟨r, hr, rfl⟩ := List.mem_map.1 hq
        exact recP_rec (h.kinds r hr)
    · cases hq
theorem pages_seg {b : LB} (h : b.seg = true) : b.pages = numP 2 b.wear :: numP 3 b.num :: b.recs.map recP := by
  unfold LB.pages
  rw [if_pos h]
theorem pages_free {b : LB} (h : b.seg = false) : b.pages = [numP 2 b.wear] := by
  unfold LB.pages
  rw [if_neg (by rw [h]; decide)]
theorem pages_len_seg {b : LB} (h : b.seg = true) : b.pages.length = 2 + b.recs.length := by
  rw [pages_seg h, List.length_cons, List.length_cons, List.length_map]; omega
theorem pages_len_free {b : LB} (h : b.seg = false) : b.pages.length = 1 := by rw [pages_free h]; rfl
theorem LB.ok.le8 {b : LB} (h : b.ok) : b.pages.length ≤ 8 := by
  cases hs : b.seg with
  | true => rw [pages_len_seg hs]; have := h.recs; omega
  | false => rw [pages_len_free hs]; omega
/-- the number that a page's record of a kind tells -/
def tellsM (p : List UInt8) (k : UInt8) : Option Nat := if (FM.readM p).2.2.2 = 0 ∧ (FM.readM p).1 = k ∧ (FM.readM p).2.1.length = 8 then some (le (FM.readM p).2.1) else none
theorem tells_num {p : List UInt8} {k : UInt8} {n : Nat} (h0 : k ≠ 0) (h1 : k ≠ 255) (hn : n < 18446744073709551616) (h : Near p (numP k n)) : tellsM p k = some n := by
  obtain ⟨m, _, e⟩ := near_read (by rw [numB_length]; omega) h0 h1 h
  unfold tellsM
  rw [e, if_pos ⟨rfl, rfl, numB_length _ _⟩]
  rw [le_numB, Nat.mod_eq_of_lt (by omega)]
theorem tells_ff (k : UInt8) : tellsM NM.ff k = none := by
  unfold tellsM
  rw [ff_read, if_neg (by rintro ⟨q, _⟩; simp at q)]
/-- the page behind all those that hold anything -/
def behindM (pg : Nat → List UInt8) : Nat → Nat
  | 0 => 2
  | k + 1 => if k + 1 ≤ 2 then 2 else if FM.blank (pg k) = true then behindM pg k else k + 1
theorem behind_has {B : Bk} {L : List (List UInt8)} (h : HasN B L) (hs : ∀ q ∈ L, IsRec q) : ∀ k, L.length ≤ k → k ≤ 8 → behindM (fun i => B.pg.getD i []) k = max 2 L.length
  | 0, h1, _ => by show 2 = _; omega
  | k + 1, h1, h2 => by
    unfold behindM
    by_cases c : k + 1 ≤ 2
    · rw [if_pos c]; omega
    · rw [if_neg c]
      by_cases ck : L.length = k + 1
      · rw [near_blank (hs _ (getD_mem (by omega))) (h.pg k (by omega)), if_neg (by decide)]
        omega
      · rw [h.ff k (by omega) (by omega), ff_blank, if_pos rfl]
        exact behind_has h hs k (by omega) (by omega)
end Go.Proofs.YtdiocjneakfdgaaGreatDoor

/- The order of a log's segments, and how they are sorted: plain facts. -/
namespace Go.Proofs.YtdiocjneakfdgaaGreatDoor
open Go
def numAt (Bs : List LB) (x : Nat) : Nat := (Bs[x]?.map LB.num).getD 0
def segAt (Bs : List LB) (x : Nat) : Bool := (Bs[x]?.map LB.seg).getD false
theorem numAt_get {Bs : List LB} {x : Nat} {b : LB} (h : Bs[x]? = some b) : numAt Bs x = b.num := by unfold numAt; rw [h]; rfl
theorem segAt_get {Bs : List LB} {x : Nat} {b : LB} (h : Bs[x]? = some b) : segAt Bs x = b.seg := by unfold segAt; rw [h]; rfl
theorem segAt_lt {Bs : List LB} {x : Nat} (h : segAt Bs x = true) : x < Bs.length := by
  unfold segAt at h
  cases e : Bs[x]? with
  | none => rw [e] at h; cases h
  | some b => exact get_lt e
/-- the segments, in the log's order -/
structure IsOrder (Bs : List LB) (os : List Nat) : Prop where
  mem : ∀ x, x ∈ os ↔ segAt Bs x = true
  pw : os.Pairwise (fun x y => numAt Bs x < numAt Bs y)
def segsTo (Bs : List LB) (k : Nat) : List Nat := (List.range k).filter (segAt Bs)
theorem segsTo_succ (Bs : List LB) (k : Nat) : segsTo Bs (k + 1) = segsTo Bs k ++ if segAt Bs k = true then [k] else [] := by
  unfold segsTo
  rw [List.range_succ, List.filter_append]
  by_cases h : segAt Bs k = true
  · rw [if_pos h, List.filter_cons_of_pos h, List.filter_nil]
  · rw [if_neg h, List.filter_cons_of_neg h, List.filter_nil]
theorem segsTo_le (Bs : List LB) (k : Nat) : (segsTo Bs k).length ≤ k := by
  have := List.length_filter_le (segAt Bs) (List.range k)
  rw [List.length_range] at this
  exact this
theorem segsTo_mem {Bs : List LB} {k x : Nat} (h : x ∈ segsTo Bs k) : x < k := List.mem_range.1 (List.mem_filter.1 h).1
theorem IsOrder.nodup {Bs : List LB} {os : List Nat} (h : IsOrder Bs os) : os.Nodup := h.pw.imp (fun q e => by subst e; omega)
theorem perm_nodup {l m : List Nat} (hl : l.Nodup) (hm : m.Nodup) (h : ∀ x, x ∈ l ↔ x ∈ m) : l.Perm m :=
  (List.perm_ext_iff_of_nodup hl hm).2 h
theorem IsOrder.perm {Bs : List LB} {os : List Nat} (h : IsOrder Bs os) : (segsTo Bs Bs.length).Perm os :=
  perm_nodup (List.nodup_range.sublist List.filter_sublist) h.nodup (fun x => by
    rw [h.mem]
    unfold segsTo
    rw [List.mem_filter, List.mem_range]
    exact ⟨fun q => q.2, fun q => ⟨segAt_lt q, q⟩⟩)
/-- a permutation in order is the one -/
theorem sorted_one {key : Nat → Nat} : ∀ (os l : List Nat), l.Perm os → os.Pairwise (fun x y => key x < key y) → l.Pairwise (fun x y => ¬ key y < key x) → l = os
  | [], l, hp, _, _ => List.perm_nil.1 hp
  | o :: os, [], hp, _, _ => absurd hp.symm (by intro q; have := List.perm_nil.1 q; cases this)
  | o :: os, x :: l, hp, ho, hl => by
    rw [List.pairwise_cons] at ho hl
    have hx : x ∈ o :: os := hp.mem_iff.1 (List.mem_cons_self ..)
    have hoo : o ∈ x :: l := hp.mem_iff.2 (List.mem_cons_self ..)
    have e : x = o := by
      rcases List.mem_cons.1 hx with q | q
      · exact q
      · rcases List.mem_cons.1 hoo with r | r
        · exact r.symm
        · exact absurd (ho.1 x q) (hl.1 o r)
    subst e
    rw [sorted_one os l (List.Perm.cons_inv hp) ho.2 hl.2]
theorem sort_order {Bs : List LB} {os L : List Nat} (h : IsOrder Bs os) (hp : L.Perm (segsTo Bs Bs.length)) (hs : Srt (numAt Bs) L 0 L.length) : L = os := by
  refine sorted_one (key := numAt Bs) os _ (hp.trans h.perm) h.pw ?_
  rw [List.pairwise_iff_getElem]
  intro i j hi hj hij
  have := hs i j (Nat.zero_le _) hij hj
  simp only [List.getD_eq_getElem?_getD, List.getElem?_eq_getElem hi, List.getElem?_eq_getElem hj, Option.getD_some] at this
  omega
theorem IsOrder.keys {Bs : List LB} {os L : List Nat} (h : IsOrder Bs os) (hp : L.Perm (segsTo Bs Bs.length)) : (L.map (numAt Bs)).Nodup := by
  refine nodup_perm (L := os) ?_ (hp.trans h.perm)
  unfold List.Nodup
  rw [List.pairwise_map]
  exact h.pw.imp (fun q => Nat.ne_of_lt q)
theorem segs_lt {Bs : List LB} {L : List Nat} (hp : L.Perm (segsTo Bs Bs.length)) : ∀ x ∈ L, x < Bs.length := fun _ hx => segsTo_mem (hp.mem_iff.1 hx)
end Go.Proofs.YtdiocjneakfdgaaGreatDoor

/- What a log's calls make of its plain state: plain facts. -/
namespace Go.Proofs.YtdiocjneakfdgaaGreatDoor
open Go
section
variable {Bs : List LB} {os : List Nat} {x i k m : Nat} {b b' : LB}
theorem numAt_set (hi : i < Bs.length) : numAt (Bs.set i b') x = if x = i then b'.num else numAt Bs x := by
  unfold numAt
  rw [List.getElem?_set]
  by_cases c : x = i
  · subst c; simp [hi]
  · rw [if_neg c, if_neg (fun q => c q.symm)]
theorem segAt_set (hi : i < Bs.length) : segAt (Bs.set i b') x = if x = i then b'.seg else segAt Bs x := by
  unfold segAt
  rw [List.getElem?_set]
  by_cases c : x = i
  · subst c; simp [hi]
  · rw [if_neg c, if_neg (fun q => c q.symm)]
theorem IsOrder.keep (h : IsOrder Bs os) (hb : Bs[i]? = some b) (hs : b'.seg = b.seg) (hn : b'.num = b.num) : IsOrder (Bs.set i b') os := by
  have hi := get_lt hb
  have e1 : ∀ x, numAt (Bs.set i b') x = numAt Bs x := fun x => by
    rw [numAt_set hi]; split
    · rename_i c; subst c; rw [hn, numAt_get hb]
    · rfl
  have e2 : ∀ x, segAt (Bs.set i b') x = segAt Bs x := fun x => by
    rw [segAt_set hi]; split
    · rename_i c; subst c; rw [hs, segAt_get hb]
    · rfl
  exact ⟨fun x => by rw [e2]; exact h.mem x, h.pw.imp (fun q => by rw [e1, e1]; exact q)⟩
theorem IsOrder.begin_ (h : IsOrder Bs os) (hb : Bs[i]? = some b) (hf : b.seg = false) (hs : b'.seg = true) (hn : ∀ x, segAt Bs x = true → numAt Bs x < b'.num) : IsOrder (Bs.set i b') (os ++ [i]) := by
  have hi := get_lt hb
  have hni : i ∉ os := fun q => by rw [h.mem, segAt_get hb, hf] at q; cases q
  refine ⟨fun x => ?_, ?_⟩
  · rw [List.mem_append, List.mem_singleton, segAt_set hi, h.mem]
    by_cases c : x = i
    · rw [if_pos c, hs]; simp [c]
    · rw [if_neg c]; simp [c]
  · rw [List.pairwise_append]
    refine ⟨?_, List.pairwise_singleton _ _, fun x hx y hy => ?_⟩
    · refine List.Pairwise.imp_of_mem ?_ h.pw
      intro x y hx hy q
      rw [numAt_set hi, numAt_set hi, if_neg (show ¬ x = i from fun e => hni (e ▸ hx)), if_neg (show ¬ y = i from fun e => hni (e ▸ hy))]
      exact q
    · rw [List.mem_singleton] at hy
      rw [hy, numAt_set hi, numAt_set hi, if_neg (show ¬ x = i from fun e => hni (e ▸ hx)), if_pos rfl]
      exact hn x ((h.mem x).1 hx)
theorem IsOrder.drop (h : IsOrder Bs os) (hi : i < Bs.length) (hs : b'.seg = false) : IsOrder (Bs.set i b') (os.filter (fun x => decide (x ≠ i))) := by
  refine ⟨fun x => ?_, ?_⟩
  · rw [List.mem_filter, segAt_set hi, h.mem, decide_eq_true_eq]
    by_cases c : x = i
    · rw [if_pos c, hs]; simp [c]
    · rw [if_neg c]; simp [c]
  · refine List.Pairwise.imp_of_mem ?_ (h.pw.sublist List.filter_sublist)
    intro x y hx hy q
    have hx' := of_decide_eq_true (List.mem_filter.1 hx).2
    have hy' := of_decide_eq_true (List.mem_filter.1 hy).2
    rw [numAt_set hi, numAt_set hi, if_neg hx', if_neg hy']
    exact q
end
def wearAt (Bs : List LB) (x : Nat) : Nat := (Bs[x]?.map LB.wear).getD 0
theorem wearAt_get {Bs : List LB} {x : Nat} {b : LB} (h : Bs[x]? = some b) : wearAt Bs x = b.wear := by unfold wearAt; rw [h]; rfl
/-- of the first k blocks the free one with the least wear -/
def leastTo (Bs : List LB) : Nat → Option Nat
  | 0 => none
  | k + 1 => if segAt Bs k = true then leastTo Bs k else match leastTo Bs k with
    | none => some k
    | some m => if wearAt Bs k < wearAt Bs m then some k else some m
theorem leastTo_some {Bs : List LB} : ∀ (k m : Nat), leastTo Bs k = some m → m < k ∧ segAt Bs m = false ∧ ∀ x, x < k → segAt Bs x = false → wearAt Bs m ≤ wearAt Bs x
  | 0, m, h => by cases h
  | k + 1, m, h => by
    unfold leastTo at h
    by_cases c : segAt Bs k = true
    · rw [if_pos c] at h
      obtain ⟨h1, h2, h3⟩ := leastTo_some k m h
      refine ⟨by omega, h2, fun x hx hs => ?_⟩
      by_cases e : x = k
      · subst e; rw [c] at hs; cases hs
      · exact h3 x (by omega) hs
    · have c' : segAt Bs k = false := by simpa using c
      rw [if_neg c] at h
      cases e : leastTo Bs k with
      | none =>
        rw [e] at h
        simp only [Option.some.injEq] at h
        subst h
        refine ⟨by omega, c', fun x hx hs => ?_⟩
        by_cases e2 : x = k
        · rw [e2]; exact Nat.le_refl _
        · exfalso
          have hx' : x < k := by omega
          clear hx e2 c c'
          induction k with
          | zero => omega
          | succ j ih =>
            unfold leastTo at e
            by_cases cj : segAt Bs j = true
            · rw [if_pos cj] at e
              by_cases ex : x = j
              · subst ex; rw [cj] at hs; cases hs
              · exact ih e (by omega)
            · rw [if_neg cj] at e
              cases e3 : leastTo Bs j with
              | none => rw [e3] at e; cases e
              | some q => rw [e3] at e; simp only at e; split at e <;> cases e
      | some q =>
        rw [e] at h
        obtain ⟨h1, h2, h3⟩ := leastTo_some k q e
        simp only at h
        by_cases c2 : wearAt Bs k < wearAt Bs q
        · rw [if_pos c2, Option.some.injEq] at h
          subst h
          refine ⟨by omega, c', fun x hx hs => ?_⟩
          by_cases e2 : x = k
          · rw [e2]; exact Nat.le_refl _
          · have := h3 x (by omega) hs; omega
        · rw [if_neg c2, Option.some.injEq] at h
          subst h
          refine ⟨by omega, h2, fun x hx hs => ?_⟩
          by_cases e2 : x = k
          · rw [e2]; omega
          · exact h3 x (by omega) hs
/-- how many of the first k blocks are free -/
def freeTo (Bs : List LB) : Nat → Nat
  | 0 => 0
  | k + 1 => freeTo Bs k + if segAt Bs k = true then 0 else 1
theorem freeTo_le (Bs : List LB) : ∀ k, freeTo Bs k ≤ k
  | 0 => Nat.le_refl _
  | k + 1 => by
    have := freeTo_le Bs k
    unfold freeTo
    split <;> omega
theorem freeTo_segs (Bs : List LB) : ∀ k, freeTo Bs k + (segsTo Bs k).length = k
  | 0 => rfl
  | k + 1 => by
    have := freeTo_segs Bs k
    rw [segsTo_succ]
    unfold freeTo
    split
    · rw [List.length_append, List.length_singleton]; omega
    · rw [List.append_nil]; omega
theorem IsOrder.free {Bs : List LB} {os : List Nat} (h : IsOrder Bs os) : freeTo Bs Bs.length + os.length = Bs.length := by
  rw [← h.perm.length_eq]
  exact freeTo_segs Bs Bs.length
end Go.Proofs.YtdiocjneakfdgaaGreatDoor

/- What Append makes of a log's plain state: plain facts. -/
namespace Go.Proofs.YtdiocjneakfdgaaGreatDoor
open Go
/-- a log's plain state is in order -/
structure LOk (Bs : List LB) (os : List Nat) (num : Nat) : Prop where
  ok : ∀ b ∈ Bs, b.ok
  ord : IsOrder Bs os
  le : ∀ b ∈ Bs, b.seg = true → b.num ≤ num
/-- what its disk's blocks hold -/
def LHas (X : DS) (Bs : List LB) : Prop := ∀ y b, Bs[y]? = some b → HasN (X.blk y) b.pages
def Clr (Bs : List LB) : Prop := ∀ b ∈ Bs, b.seg = false → b.clr = true
def nextAt (Bs : List LB) (x : Nat) : Nat := (Bs[x]?.map LB.next).getD 8
theorem nextAt_get {Bs : List LB} {x : Nat} {b : LB} (h : Bs[x]? = some b) : nextAt Bs x = b.next := by unfold nextAt; rw [h]; rfl
def LB.put (b : LB) (r : LRec) : LB := { b with next := b.next + 1, recs := b.recs ++ [r] }
def LB.begin_ (b : LB) (num : Nat) : LB := ⟨b.wear, false, true, num, 2, []⟩
def LB.fresh (wear : Nat) : LB := ⟨wear, true, false, 0, 0, []⟩
theorem LB.fresh_ok {n : Nat} (h : n < 18446744073709551616) : (LB.fresh n).ok := ⟨h, by show (0 : Nat) < _; omega, by show (0 : Nat) ≤ 6; omega, (fun r h => by cases h), fun _ => rfl, fun h => by cases h⟩
theorem mem_set {Bs : List LB} {i : Nat} {b' b : LB} (h : b ∈ Bs.set i b') : b = b' ∨ b ∈ Bs := by
  rcases List.mem_or_eq_of_mem_set h with q | q
  · exact .inr q
  · exact .inl q
theorem get_mem {Bs : List LB} {i : Nat} {b : LB} (h : Bs[i]? = some b) : b ∈ Bs := List.mem_of_getElem? h
theorem get_set {Bs : List LB} {i y : Nat} {b' b : LB} (hi : i < Bs.length) (h : (Bs.set i b')[y]? = some b) : (y = i ∧ b = b') ∨ (y ≠ i ∧ Bs[y]? = some b) := by
  rw [List.getElem?_set] at h
  by_cases c : i = y
  · subst c
    rw [if_pos rfl, if_pos hi] at h
    exact .inl ⟨rfl, (Option.some.inj h).symm⟩
  · rw [if_neg c] at h
    exact .inr ⟨fun q => c q.symm, h⟩
section
variable {Bs : List LB} {os : List Nat} {num i : Nat} {b : LB} {r : LRec} {X X' : DS} {N : Nat}
theorem LB.put_ok (h : b.ok) (hs : b.seg = true) (h8 : b.next < 8) (hr : recOk r) : (b.put r).ok := by
  have hl := h.len hs
  have e1 : (b.put r).recs = b.recs ++ [r] := rfl
  have e2 : (b.put r).next = b.next + 1 := rfl
  refine ⟨h.wear, h.num, ?_, fun q hq => ?_, fun q => ?_, fun _ => .inl ?_⟩
  · rw [e1, List.length_append, List.length_singleton]; have := h.recs; omega
  · rw [e1] at hq
    rcases List.mem_append.1 hq with z | z
    · exact h.kinds q z
    · rw [List.mem_singleton.1 z]; exact hr
  · rw [show (b.put r).seg = b.seg from rfl, hs] at q; cases q
  · rw [e1, e2, List.length_append, List.length_singleton]; omega
theorem LB.put_pages (hs : b.seg = true) : (b.put r).pages = b.pages ++ [recP r] := by
  rw [pages_seg (show (b.put r).seg = true from hs), pages_seg hs]
  show numP 2 b.wear :: numP 3 b.num :: (b.recs ++ [r]).map recP = _
  rw [List.map_append]
  rfl
theorem LB.begin_pages (b : LB) (num : Nat) : (b.begin_ num).pages = [numP 2 b.wear] ++ [numP 3 num] := rfl
theorem LB.begin_ok (h : b.ok) (hn : num < 18446744073709551616) : (b.begin_ num).ok :=
  ⟨h.wear, hn, by show (0 : Nat) ≤ 6; omega, (fun r h => by cases h), (fun h => by cases h), fun _ => .inl rfl⟩
theorem LOk.put (h : LOk Bs os num) (hb : Bs[i]? = some b) (hs : b.seg = true) (h8 : b.next < 8) (hr : recOk r) : LOk (Bs.set i (b.put r)) os num := by
  refine ⟨fun q hq => ?_, h.ord.keep hb rfl rfl, fun q hq => ?_⟩
  · rcases mem_set hq with rfl | hq
    · exact LB.put_ok (h.ok _ (get_mem hb)) hs h8 hr
    · exact h.ok q hq
  · rcases mem_set hq with rfl | hq
    · exact fun _ => h.le b (get_mem hb) hs
    · exact h.le q hq
theorem LOk.begin_ (h : LOk Bs os num) (hb : Bs[i]? = some b) (hf : b.seg = false) (hn : num + 1 < 18446744073709551616) : LOk (Bs.set i (b.begin_ (num + 1))) (os ++ [i]) (num + 1) := by
  refine ⟨fun q hq => ?_, h.ord.begin_ hb hf rfl (fun x hx => ?_), fun q hq => ?_⟩
  · rcases mem_set hq with rfl | hq
    · exact LB.begin_ok (h.ok _ (get_mem hb)) hn
    · exact h.ok q hq
  · have hx' := segAt_lt hx
    have hg : Bs[x]? = some Bs[x] := List.getElem?_eq_getElem hx'
    rw [segAt_get hg] at hx
    rw [numAt_get hg]
    exact Nat.lt_succ_of_le (h.le _ (List.getElem_mem hx') hx)
  · rcases mem_set hq with rfl | hq
    · exact fun _ => Nat.le_refl _
    · exact fun hs => Nat.le_succ_of_le (h.le q hq hs)
theorem LOk.drop (h : LOk Bs os num) (hi : i < Bs.length) {n : Nat} (hn : n < 18446744073709551616) : LOk (Bs.set i (LB.fresh n)) (os.filter (fun x => decide (x ≠ i))) num := by
  refine ⟨fun q hq => ?_, h.ord.drop hi rfl, fun q hq => ?_⟩
  · rcases mem_set hq with rfl | hq
    · exact LB.fresh_ok hn
    · exact h.ok q hq
  · rcases mem_set hq with rfl | hq
    · exact fun hs => by cases hs
    · exact h.le q hq
theorem LHas.set (h : LHas X Bs) (hi : i < Bs.length) {b' : LB} (h1 : HasN (X'.blk i) b'.pages) (h2 : ∀ y, y < Bs.length → y ≠ i → X'.blk y = X.blk y) : LHas X' (Bs.set i b') := fun y q hq => by
  rcases get_set hi hq with ⟨rfl, rfl⟩ | ⟨c, hq⟩
  · exact h1
  · rw [h2 y (get_lt hq) c]
    exact h y q hq
theorem Clr.set (h : Clr Bs) {b' : LB} (hb : b'.seg = false → b'.clr = true) : Clr (Bs.set i b') := fun q hq => by
  rcases mem_set hq with rfl | hq
  · exact hb
  · exact h q hq
end
/-- how many records fit behind the last one -/
def roomOf (Bs : List LB) (os : List Nat) : Nat := match os.getLast? with
  | none => 0
  | some x => 8 - nextAt Bs x
/-- what Append leaves, and where the record stands; none: no room -/
def appS (Bs : List LB) (os : List Nat) (num : Nat) (r : LRec) : Option (List LB × List Nat × Nat × Nat × Nat) :=
  match os.getLast?.bind (fun x => if nextAt Bs x < 8 then Bs[x]?.map (fun b => (x, b)) else none) with
  | some (x, b) => some (Bs.set x (b.put r), os, num, x, b.next)
  | none => match (leastTo Bs Bs.length).bind (fun x => Bs[x]?.map (fun b => (x, b))) with
    | none => none
    | some (x, b) => some ((Bs.set x (b.begin_ (num + 1))).set x ((b.begin_ (num + 1)).put r), os ++ [x], num + 1, x, 2)
end Go.Proofs.YtdiocjneakfdgaaGreatDoor

/- The count of a chip's acts never falls, and a Program that is done raises it: plain facts; and a disk's calls for a log. Condition: the disk is in order; few calls so far. -/
namespace Go.Proofs.YtdiocjneakfdgaaGreatDoor
open Go.RowKit
theorem cnt_program (S : Ch) (s : NM.Pwr) (b k : Int) (d : List UInt8) : S.cnt ≤ (S.program b k d s).1.cnt := by
  unfold Ch.program
  split
  · exact Nat.le_refl _
  · split
    · exact Nat.le_refl _
    · exact Nat.le_succ _
theorem cnt_erase (S : Ch) (s : NM.Pwr) (b : Int) : S.cnt ≤ (S.erase b s).1.cnt := by
  unfold Ch.erase
  split
  · exact Nat.le_refl _
  · simp only
    split
    · exact Nat.le_succ _
    · exact Nat.le_succ _
theorem cnt_wipes : ∀ (k : Nat) (S : Ch) (s : NM.Pwr) (b : Int), S.cnt ≤ (Ch.wipes k S s b).1.cnt
  | 0, _, _, _ => Nat.le_refl _
  | k + 1, S, s, b => by
    unfold Ch.wipes
    split
    · exact Nat.le_trans (cnt_erase S s b) (cnt_wipes k _ _ b)
    · exact cnt_erase S s b
theorem cnt_puts : ∀ (k j : Nat) (S : Ch) (s : NM.Pwr) (b : Int) (p : List UInt8), S.cnt ≤ (Ch.puts k j S s b p).1.cnt
  | 0, _, _, _, _, _ => Nat.le_refl _
  | k + 1, j, S, s, b, p => by
    unfold Ch.puts
    split
    · exact Nat.le_trans (cnt_program S s b j p) (cnt_puts k (j + 1) _ _ b p)
    · exact cnt_program S s b j p
theorem cnt_place (S : Ch) (s : NM.Pwr) (b : Int) (p : List UInt8) : S.cnt ≤ (S.place s b p).1.cnt := by
  unfold Ch.place
  split
  · exact Nat.le_trans (cnt_wipes 8 S s b) (cnt_puts 8 0 _ _ b p)
  · exact cnt_wipes 8 S s b
theorem cnt_keep (S : Ch) (s : NM.Pwr) (l : Lay) : S.cnt ≤ (S.keep s l).1.cnt := by
  unfold Ch.keep
  split
  · exact Nat.le_refl _
  · split
    · exact cnt_place S s _ _
    · exact Nat.le_trans (cnt_place S s _ _) (cnt_wipes 8 _ _ _)
theorem cnt_losing (S : Ch) (s : NM.Pwr) (l : Lay) (b : Int) : S.cnt ≤ (S.losing s l b).1.cnt := by
  unfold Ch.losing
  split
  · exact cnt_keep _ _ _
  · exact Nat.le_refl _
theorem cnt_swapping (S : Ch) (s : NM.Pwr) (l : Lay) (x b : Int) : S.cnt ≤ (S.swapping s l x b).1.cnt := by
  unfold Ch.swapping
  split
  · exact cnt_keep _ _ _
  · exact Nat.le_refl _
theorem cnt_fills (b : Int) : ∀ (ps : List (List UInt8)) (i : Nat) (S : Ch) (s : NM.Pwr), S.cnt ≤ (Ch.fills b i S s ps).1.cnt
  | [], _, _, _ => Nat.le_refl _
  | p :: ps, i, S, s => by
    unfold Ch.fills
    split
    · exact Nat.le_trans (cnt_program S s b i p) (cnt_fills b ps (i + 1) _ _)
    · exact cnt_program S s b i p
theorem cnt_fill (S : Ch) (s : NM.Pwr) (b : Int) (ps : List (List UInt8)) : S.cnt ≤ (S.fill s b ps).1.cnt := by
  unfold Ch.fill
  split
  · exact Nat.le_trans (cnt_erase S s b) (cnt_fills b ps 0 _ _)
  · exact cnt_erase S s b
theorem cnt_move (x : Int) (ps : List (List UInt8)) : ∀ (k : Nat) (X : DS), X.S.cnt ≤ (DS.move x ps k X).1.S.cnt
  | 0, X => Nat.le_refl _
  | k + 1, X => by
    unfold DS.move
    cases X.l.spare with
    | none => exact Nat.le_refl _
    | some b =>
      have h1 := cnt_fill X.S X.s (b : Int) ps
      simp only
      split
      · exact Nat.le_trans h1 (cnt_swapping _ _ _ _ _)
      · split
        · exact h1
        · split
          · exact Nat.le_trans h1 (cnt_losing _ _ _ _)
          · refine Nat.le_trans ?_ (cnt_move x ps k _)
            exact Nat.le_trans h1 (cnt_losing _ _ _ _)
/-- a Program that is done is counted -/
theorem cnt_dprogram {X : DS} {b k : Int} {p : List UInt8} (h1 : NM.may X.s.off X.S.live X.S.bs.length (X.at_ b) k = 0) (h2 : (X.S.nextOf (X.at_ b).toNat : Int) = k) : X.S.cnt < (X.program b k p).1.S.cnt := by
  have hc : X.S.cnt < (X.S.program (X.at_ b) k p X.s).1.cnt := by
    unfold Ch.program
    rw [if_neg (by rw [h1]; simp), if_neg (by simpa using h2.symm)]
    exact Nat.lt_succ_self _
  unfold DS.program
  split
  · exact hc
  · refine Nat.lt_of_lt_of_le ?_ (cnt_move _ _ _ _)
    exact hc
/-- the pages of a disk's blocks are blank, or records in which no bit has turned -/
def Clean (X : DS) (N : Nat) : Prop := ∀ y, y < N - 6 → ∀ i, i < 8 → (X.blk y).pg.getD i [] = NM.ff ∨ IsRec ((X.blk y).pg.getD i [])
/-- a disk in order, its power on and lasting, whatever acts are to fail; where none is told to fail its layout is the first one, and so far (a number of calls) no bit has turned -/
def Dl (w : World) (d t : Nat) (a : At) (X : DS) (N K : Nat) : Prop := ∃ f e, Disk1 w d t a X N f e K ∧ (a.mp = none → a.me = none → f = 0 ∧ e = 0 ∧ X.l = layN N ∧ (K < 1000 → Clean X N))
theorem clean_program {X Y : DS} {N b n : Nat} {B : Bk} {p : List UInt8} (h : Clean X N) (hb : b < N - 6) (hf : ∀ i, n ≤ i → i < 8 → (X.blk b).pg.getD i [] = NM.ff) (hr : ∀ i, i < n → IsRec ((X.blk b).pg.getD i [])) (hF : Fits (X.blk b) B n (some p)) (hM : Y.blk b = B ∧ ∀ y, y < N - 6 → y ≠ b → Y.blk y = X.blk y) (hp : IsRec p) : Clean Y N := fun y hy i hi => by
  by_cases e : y = b
  · subst e
    rw [hM.1]
    obtain ⟨_, f2, f3, f4⟩ := hF
    rcases Nat.lt_trichotomy i n with c | rfl | c
    · rcases f2 i c with q | q
      · rw [q]; exact .inr (hr i c)
      · rw [q, near_mend (hr i c) (.inl rfl)]; exact .inr (hr i c)
    · rw [f3 p rfl]; exact .inr hp
    · exact .inl (f4 i c hi (hf i (by omega) hi))
  · rw [hM.2 y hy e]
    exact h y hy i hi
theorem clean_erase {X Y : DS} {N b : Nat} (h : Clean X N) (hM : Y.blk b = Bk.blank ∧ ∀ y, y < N - 6 → y ≠ b → Y.blk y = X.blk y) : Clean Y N := fun y hy i hi => by
  by_cases e : y = b
  · subst e
    rw [hM.1]
    exact .inl (ffs_at hi)
  · rw [hM.2 y hy e]
    exact h y hy i hi
/-- an erase that can't fail keeps the layout -/
theorem erase_lay {X : DS} {N f K b : Nat} (h : DOk X N f 0 K) (ho : X.s.off = false) (hb : b < N - 6) : (X.erase (b : Int)).1.l = X.l := by
  have hat := DS.at_here h.sz hb
  obtain ⟨_, _, hnn, _⟩ := h.good.here (x := b) (by have := h.sz; have := h.n2; omega)
  rw [h.sz] at hnn
  obtain ⟨S1, s1, r, n, nx, e1, hE, _, _, hc⟩ := h.fine.erase ho hnn
  unfold DS.erase
  rw [hat, hE]
  simp only
  rcases hc with ⟨rfl, _⟩ | ⟨_, _, _, _, he1⟩ | ⟨rfl, _⟩
  · rw [if_pos (by decide)]
  · omega
  · rw [if_pos (by decide)]
section
variable {w w' : World} {d t : Nat} {a : At} {X : DS} {N f e K : Nat}
theorem Dl.after (h : Dl w d t a X N K) (hb : Below w.heap.size w w') : Dl w' d t a X N K := by
  obtain ⟨f, e, h, hl⟩ := h
  exact ⟨f, e, h.after hb, hl⟩
theorem Dl.lt (h : Dl w d t a X N K) : ∀ k, a.disk t d k → k < w.heap.size := by
  obtain ⟨f, e, h, _⟩ := h
  exact h.all_lt
theorem Dl.n (h : Dl w d t a X N K) : 16 ≤ N ∧ N ≤ 40 := by
  obtain ⟨f, e, h, _⟩ := h
  exact ⟨h.ok.fine.n1, h.ok.n2⟩
theorem Dl.more {K' : Nat} (h : Dl w d t a X N K) (hK : K ≤ K') : Dl w d t a X N K' := by
  obtain ⟨f, e, h, hl⟩ := h
  exact ⟨f, e, ⟨h.dk, h.ok.more hK, h.on, h.last, h.u, few_le (by omega) h.few⟩, fun m1 m2 => ⟨(hl m1 m2).1, (hl m1 m2).2.1, (hl m1 m2).2.2.1, fun hk => (hl m1 m2).2.2.2 (by omega)⟩⟩
theorem Dl.chg {T : Nat → Prop} (h : Dl w d t a X N K) (hc : Chg w w' T) (hT : ∀ k, a.disk t d k ∨ k = 0 → ¬ T k) : Dl w' d t a X N K := by
  obtain ⟨f, e, h, hl⟩ := h
  exact ⟨f, e, ⟨h.dk.chg hc hT, h.ok, h.on, h.last, h.u, h.few⟩, hl⟩
theorem Dl.tab (h : Dl w d t a X N K) : Tab w := by
  obtain ⟨f, e, h, _⟩ := h
  exact h.dk.dev.tab
theorem Dl.read (h : Dl w d t a X N K) {b k : Nat} (hb : b < N - 6) (hk : k < 8) :
    Calls Tryz.prog 52 #[.pointer (some ⟨d, 0, none⟩), .int .i64 (b : Int), .int .i64 (k : Int)] w fun er w' => er = .returned (.tuple #[.agg (cl ((X.blk b).pg.getD k [])), .int .i64 0]) ∧ Below w.heap.size w w' := by
  obtain ⟨f, e, h, _⟩ := h
  exact h.read hb hk
theorem Dl.page (h : Dl w d t a X N K) {b k : Nat} (hb : b < N - 6) (hk : k < 8) : ((X.blk b).pg.getD k []).length = 258 := by
  obtain ⟨f, e, h, _⟩ := h
  obtain ⟨_, hl⟩ := at_lt h.ok hb
  have hm : X.blk b ∈ X.S.bs := by
    unfold DS.blk Ch.bk
    rw [List.getD_eq_getElem?_getD, List.getElem?_eq_getElem hl]
    exact List.getElem_mem _
  exact Bk.page_length (h.dk.dev.pc.bg.2 _ hm) hk
theorem Dl.count (h : Dl w d t a X N K) : w.cell? ⟨d, 0, none⟩ = some (.pointer (some ⟨a.c, 0, none⟩)) ∧ Calls Tryz.prog 49 #[.pointer (some ⟨a.c, 0, none⟩)] w fun e w' => e = .returned (.int .i64 (X.S.cnt : Int)) ∧ w = w' := by
  obtain ⟨f, e, h, _⟩ := h
  exact ⟨h.dk.cells.1, chipcount_any a X.S w h.dk.dev.pc⟩
theorem Dl.program (h : Dl w d t a X N K) {b : Nat} (hb : b < N - 6) {L : List (List UInt8)} (hL : HasN (X.blk b) L) (h8 : L.length < 8) (hs : ∀ q ∈ L, IsRec q) {p : List UInt8} (hp : IsRec p) (hK : K ≤ 4000) :
    Calls Tryz.prog 75 #[.pointer (some ⟨d, 0, none⟩), .int .i64 (b : Int), .int .i64 (L.length : Int), .agg (cl p)] w fun er w' => er = .returned (.int .i64 0) ∧ ∃ X', Dl w' d t a X' N (K + 5) ∧ HasN (X'.blk b) (L ++ [p]) ∧ (X'.blk b).pg.getD L.length [] = p ∧ (∀ y, y < N - 6 → y ≠ b → X'.blk y = X.blk y) ∧ X.S.cnt < X'.S.cnt ∧ Chg w w' (a.disk t d) := by
  obtain ⟨f, e, h, hlay⟩ := h
  refine (dprogram_any h.dk h.u (few_le (by omega) h.few) (b : Int) (L.length : Int) hp.length).mono ?_
  rintro er w' ⟨rfl, D, c⟩
  obtain ⟨Y, r, f', e', hE, lf, le, hc⟩ := program_spec h.ok h.on h.u hb h8 hL.nx (hL.ff L.length (Nat.le_refl _) h8) hp.length (by omega) h.dk.dev.pc.bg.2
  have hfw := few_dprogram X (b : Int) (L.length : Int) p _ h.few
  have hcn : X.S.cnt < (X.program (b : Int) (L.length : Int) p).1.S.cnt := by
    obtain ⟨ha, hl⟩ := at_lt h.ok hb
    refine cnt_dprogram ?_ ?_
    · rw [ha]
      exact may_here h.on h.ok.fine.live hl h8
    · rw [ha, Int.toNat_natCast]
      exact congrArg Int.ofNat hL.nx
  rw [hE] at D hfw hcn ⊢
  rcases hc with ⟨rfl, q2, q3, q4, q5, ⟨B, hF, hM⟩, q7, q8⟩ | ⟨_, q2, _⟩
  · have es := q2.2 h.last
    have hfit := hL.fits hs hF
    have hlay2 : a.mp = none → a.me = none → f' = 0 ∧ e' = 0 ∧ Y.l = layN N ∧ (K + 5 < 1000 → Clean Y N) := fun m1 m2 => by
      obtain ⟨rfl, rfl, hl, hcl⟩ := hlay m1 m2
      refine ⟨by omega, by omega, ?_, fun hk => clean_program (hcl (by omega)) hb hL.ff (fun i hi => ?_) hF hM hp⟩
      · cases hfp : X.S.fp (X.S.dp : Int) with
        | true => have := (q7 hfp).1; omega
        | false => rw [(q8 hfp).1, hl]
      · rcases hcl (by omega) b hb i (by omega) with q | q
        · exfalso
          have hn := hL.pg i hi
          rw [q] at hn
          have := near_blank (hs _ (getD_mem hi)) hn
          rw [ff_blank] at this
          cases this
        · exact q
    exact ⟨rfl, Y, ⟨f', e', ⟨D, q4, q2.1, by rw [es]; exact h.last, q3, few_le (by omega) hfw⟩, hlay2⟩, by rw [hM.1]; exact hfit.1, by rw [hM.1]; exact hfit.2, hM.2, hcn, c⟩
  · exact absurd h.last q2.2
theorem Dl.erase (h : Dl w d t a X N K) {b : Nat} (hb : b < N - 6) (hK : K ≤ 4000) :
    Calls Tryz.prog 50 #[.pointer (some ⟨d, 0, none⟩), .int .i64 (b : Int)] w fun er w' => er = .returned (.int .i64 0) ∧ ∃ X', Dl w' d t a X' N (K + 5) ∧ HasN (X'.blk b) [] ∧ (∀ y, y < N - 6 → y ≠ b → X'.blk y = X.blk y) ∧ Chg w w' (a.disk t d) := by
  obtain ⟨f, e, h, hlay⟩ := h
  refine (derase_any h.dk h.u (few_le (by omega) h.few) (b : Int)).mono ?_
  rintro er w' ⟨rfl, D, c⟩
  obtain ⟨Y, r, f', e', hE, lf, le, hc⟩ := erase_spec h.ok h.on h.u hb (by omega)
  have hfw := few_derase X (b : Int) _ h.few
  have hl2 : e = 0 → Y.l = X.l := fun q => by
    subst q
    have := erase_lay h.ok h.on hb
    rwa [hE] at this
  rw [hE] at D hfw ⊢
  rcases hc with ⟨rfl, q2, q3, q4, q5, hM⟩ | ⟨_, q2, _⟩
  · have es := q2.2 h.last
    refine ⟨rfl, Y, ⟨f', e', ⟨D, q4, q2.1, by rw [es]; exact h.last, q3, few_le (by omega) hfw⟩, fun m1 m2 => ?_⟩, by rw [hM.1]; exact HasN.blank, hM.2, c⟩
    obtain ⟨rfl, rfl, hl, hcl⟩ := hlay m1 m2
    exact ⟨by omega, by omega, by rw [hl2 rfl, hl], fun hk => clean_erase (hcl (by omega)) hM⟩
  · exact absurd h.last q2.2
end
end Go.Proofs.YtdiocjneakfdgaaGreatDoor

/- A log in memory over its disk. No condition. -/
namespace Go.Proofs.YtdiocjneakfdgaaGreatDoor
open Go.RowKit
theorem aggB : ∀ w, (isAgg 80).run Tryz.prog w = .ok true w := fun _ => by kernel_rfl
theorem sizeB : ∀ w, (sizeOf 80).run Tryz.prog w = .ok 5 w := fun _ => by kernel_rfl
/-- the blocks of memory that a log may change -/
def At.log (a : At) (t d g h : Nat) (j : Nat) : Prop := a.disk t d j ∨ j = g ∨ j = h
/-- in block g lies a log over the disk in block d, its blocks in block h -/
structure Lg (w : World) (g h d t : Nat) (a : At) (X : DS) (N K : Nat) (Bs : List LB) (num : Nat) : Prop where
  gb : Blk w g 33 [.pointer (some ⟨d, 0, none⟩), .slice (some ⟨h, 0, none⟩) (N - 6) (N - 6), .int .u64 (num : Int)]
  hb : Blk w h 80 (Bs.flatMap brow)
  dk : Dl w d t a X N K
  len : Bs.length = N - 6
  gh : g ≠ h
  gd : ¬ a.disk t d g
  hd : ¬ a.disk t d h
  gt : g ≠ 0
  ht : h ≠ 0
theorem lflat_get : ∀ (Bs : List LB) (i j : Nat) (b : LB) (u : Value), Bs[i]? = some b → (brow b)[j]? = some u → (Bs.flatMap brow)[i * 5 + j]? = some u
  | [], i, j, b, u, h, _ => by simp at h
  | x :: L, 0, j, b, u, h, hu => by
    simp only [List.getElem?_cons_zero, Option.some.injEq] at h
    subst h
    rw [List.flatMap_cons, Nat.zero_mul, Nat.zero_add, List.getElem?_append_left (get_lt hu), hu]
  | x :: L, i + 1, j, b, u, h, hu => by
    rw [List.flatMap_cons, List.getElem?_append_right (by rw [brow_len]; omega), brow_len, show (i + 1) * 5 + j - 5 = i * 5 + j by omega]
    exact lflat_get L i j b u (by simpa using h) hu
theorem lflat_length (Bs : List LB) : (Bs.flatMap brow).length = Bs.length * 5 := by
  induction Bs with
  | nil => rfl
  | cons x L ih => rw [List.flatMap_cons, List.length_append, brow_len, ih, List.length_cons]; omega
theorem lflat_set : ∀ (Bs : List LB) (i : Nat) (b : LB), i < Bs.length → segSet (Bs.flatMap brow) (i * 5) (brow b) = (Bs.set i b).flatMap brow
  | [], i, b, h => absurd h (Nat.not_lt_zero _)
  | x :: L, 0, b, h => by
    rw [List.set_cons_zero, List.flatMap_cons, List.flatMap_cons]
    rfl
  | x :: L, i + 1, b, h => by
    have ih := lflat_set L i b (by simpa using h)
    rw [List.set_cons_succ, List.flatMap_cons, List.flatMap_cons, ← ih]
    unfold segSet
    have e : (i + 1) * 5 = (brow x).length + i * 5 := by rw [brow_len]; omega
    rw [e, List.take_length_add_append, Nat.add_assoc, List.drop_length_add_append]
    simp [List.append_assoc]
theorem lflat_set1 {Bs : List LB} {i j : Nat} {b b' : LB} {v : Value} (hb : Bs[i]? = some b) (hv : (brow b).set j v = brow b') (hj : j < 5) : (Bs.flatMap brow).set (i * 5 + j) v = (Bs.set i b').flatMap brow := by
  induction Bs generalizing i with
  | nil => simp at hb
  | cons x L ih =>
    cases i with
    | zero =>
      simp only [List.getElem?_cons_zero, Option.some.injEq] at hb
      subst hb
      rw [List.set_cons_zero, List.flatMap_cons, List.flatMap_cons, Nat.zero_mul, Nat.zero_add, List.set_append_left _ _ (by rw [brow_len]; exact hj), hv]
    | succ i =>
      rw [List.set_cons_succ, List.flatMap_cons, List.flatMap_cons, List.set_append_right _ _ (by rw [brow_len]; omega), brow_len, show (i + 1) * 5 + j - 5 = i * 5 + j by omega, ih (by simpa using hb)]
section
variable {w w' : World} {g h d t : Nat} {a : At} {X X' : DS} {N K K' : Nat} {Bs : List LB} {num : Nat}
theorem Lg.after (l : Lg w g h d t a X N K Bs num) (hb : Below w.heap.size w w') : Lg w' g h d t a X N K Bs num := ⟨l.gb.after hb, l.hb.after hb, l.dk.after hb, l.len, l.gh, l.gd, l.hd, l.gt, l.ht⟩
theorem Lg.lt (l : Lg w g h d t a X N K Bs num) : ∀ k, a.log t d g h k → k < w.heap.size := fun k hk => by
  rcases hk with hk | rfl | rfl
  · exact l.dk.lt k hk
  · exact l.gb.lt
  · exact l.hb.lt
theorem Lg.disk (l : Lg w g h d t a X N K Bs num) (hc : Chg w w' (a.disk t d)) (hd : Dl w' d t a X' N K') : Lg w' g h d t a X' N K' Bs num :=
  ⟨l.gb.chg hc l.gd, l.hb.chg hc l.hd, hd, l.len, l.gh, l.gd, l.hd, l.gt, l.ht⟩
theorem Lg.blocks (l : Lg w g h d t a X N K Bs num) {Bs' : List LB} (hB : Blk w' h 80 (Bs'.flatMap brow)) (hl : Bs'.length = Bs.length) (hg : w.grownBy w' (some h)) : Lg w' g h d t a X N K Bs' num :=
  ⟨l.gb.grown hg (by simpa using l.gh), hB, l.dk.chg (Chg.of_grown (S := fun j => j = h) hg (fun k e => by cases e; rfl)) (fun k hk e => by subst e; rcases hk with q | q; exact l.hd q; exact l.ht q), hl.trans l.len, l.gh, l.gd, l.hd, l.gt, l.ht⟩
theorem Lg.number (l : Lg w g h d t a X N K Bs num) {num' : Nat} (hB : Blk w' g 33 [.pointer (some ⟨d, 0, none⟩), .slice (some ⟨h, 0, none⟩) (N - 6) (N - 6), .int .u64 (num' : Int)]) (hg : w.grownBy w' (some g)) : Lg w' g h d t a X N K Bs num' :=
  ⟨hB, l.hb.grown hg (by simpa using l.gh.symm), l.dk.chg (Chg.of_grown (S := fun j => j = g) hg (fun k e => by cases e; rfl)) (fun k hk e => by subst e; rcases hk with q | q; exact l.gd q; exact l.gt q), l.len, l.gh, l.gd, l.hd, l.gt, l.ht⟩
theorem Lg.cells (l : Lg w g h d t a X N K Bs num) : w.cell? ⟨g, 0, none⟩ = some (.pointer (some ⟨d, 0, none⟩)) ∧ w.cell? ⟨g, 1, none⟩ = some (.slice (some ⟨h, 0, none⟩) (N - 6) (N - 6)) ∧ w.cell? ⟨g, 2, none⟩ = some (.int .u64 (num : Int)) := ⟨l.gb.cell 0, l.gb.cell 1, l.gb.cell 2⟩
theorem Lg.cell (l : Lg w g h d t a X N K Bs num) {i : Nat} {b : LB} (hb : Bs[i]? = some b) : w.cell? ⟨h, i * 5, none⟩ = some (.int .u64 (b.wear : Int)) ∧ w.cell? ⟨h, i * 5 + 1, none⟩ = some (.bool b.clr) ∧ w.cell? ⟨h, i * 5 + 2, none⟩ = some (.bool b.seg) ∧ w.cell? ⟨h, i * 5 + 3, none⟩ = some (.int .u64 (b.num : Int)) ∧ w.cell? ⟨h, i * 5 + 4, none⟩ = some (.int .i64 (b.next : Int)) :=
  ⟨(l.hb.cell _).trans (lflat_get Bs i 0 b _ hb rfl), (l.hb.cell _).trans (lflat_get Bs i 1 b _ hb rfl), (l.hb.cell _).trans (lflat_get Bs i 2 b _ hb rfl), (l.hb.cell _).trans (lflat_get Bs i 3 b _ hb rfl), (l.hb.cell _).trans (lflat_get Bs i 4 b _ hb rfl)⟩
end
end Go.Proofs.YtdiocjneakfdgaaGreatDoor


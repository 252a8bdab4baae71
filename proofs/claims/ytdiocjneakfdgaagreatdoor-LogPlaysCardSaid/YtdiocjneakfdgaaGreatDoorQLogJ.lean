/- Several texts of the proof, joined: what each has is said at its head. -/
import Derived.Test.YtdiocjneakfdgaaGreatDoorQLogE
import Derived.Test.YtdiocjneakfdgaaGreatDoorQLogD
import Derived.Test.YtdiocjneakfdgaaGreatDoorQLogG
import Derived.Test.YtdiocjneakfdgaaGreatDoorQLogF
/- The records of a log, in their order, as a law keeps them: plain facts. No condition. -/
namespace Go.Proofs.YtdiocjneakfdgaaGreatDoor
open Go.RowKit
/-- a record, and where it stands -/
structure RR where
  kind : UInt8
  body : List UInt8
  x : Nat
  k : Nat
def rr8 (r : RR) : List Value := [.int .u8 ((r.kind.toNat : Nat) : Int), .string ⟨r.body.toArray⟩, .int .i64 (r.x : Int), .int .i64 (r.k : Int)]
theorem rr8_len (r : RR) : (rr8 r).length = 4 := rfl
theorem rr8_one (r : RR) : ∀ v ∈ rr8 r, v.oneCell' = true := by simp [rr8, Value.oneCell']
def recsAt (x : Nat) (rs : List LRec) : List RR := rs.mapIdx fun j r => ⟨r.1, r.2, x, 2 + j⟩
def blkRecs (Bs : List LB) (x : Nat) : List RR := recsAt x ((Bs[x]?.map LB.recs).getD [])
def listOf (Bs : List LB) (os : List Nat) : List RR := os.flatMap (blkRecs Bs)
theorem recsAt_snoc (x : Nat) (rs : List LRec) (r : LRec) : recsAt x (rs ++ [r]) = recsAt x rs ++ [⟨r.1, r.2, x, 2 + rs.length⟩] := by
  unfold recsAt
  rw [List.mapIdx_append]
  simp
theorem recsAt_get {x : Nat} {rs : List LRec} {j : Nat} {r : LRec} (h : rs[j]? = some r) : (recsAt x rs)[j]? = some ⟨r.1, r.2, x, 2 + j⟩ := by
  unfold recsAt
  rw [List.getElem?_mapIdx, h]
  rfl
theorem recsAt_len (x : Nat) (rs : List LRec) : (recsAt x rs).length = rs.length := by unfold recsAt; simp
theorem recsAt_mem {x : Nat} {rs : List LRec} {q : RR} (h : q ∈ recsAt x rs) : q.x = x ∧ 2 ≤ q.k ∧ q.k < 2 + rs.length ∧ (q.kind, q.body) ∈ rs := by
  unfold recsAt at h
  obtain ⟨j, hj, rfl⟩ := List.mem_mapIdx.1 h
  exact ⟨rfl, Nat.le_add_right _ _, by show 2 + j < _; omega, List.getElem_mem hj⟩
theorem blkRecs_get {Bs : List LB} {x : Nat} {b : LB} (h : Bs[x]? = some b) : blkRecs Bs x = recsAt x b.recs := by unfold blkRecs; rw [h]; rfl
theorem listOf_congr {Bs Bs' : List LB} {os : List Nat} (h : ∀ x ∈ os, blkRecs Bs x = blkRecs Bs' x) : listOf Bs os = listOf Bs' os := by
  unfold listOf
  induction os with
  | nil => rfl
  | cons x os ih =>
    rw [List.flatMap_cons, List.flatMap_cons, h x List.mem_cons_self, ih (fun y hy => h y (List.mem_cons_of_mem _ hy))]
theorem blkRecs_set {Bs : List LB} {x y : Nat} {b' : LB} (h : y ≠ x) : blkRecs (Bs.set x b') y = blkRecs Bs y := by
  unfold blkRecs
  rw [List.getElem?_set, if_neg (fun e => h e.symm)]
theorem blkRecs_set_same {Bs : List LB} {x : Nat} {b' : LB} (h : x < Bs.length) : blkRecs (Bs.set x b') x = recsAt x b'.recs := by
  unfold blkRecs
  rw [List.getElem?_set, if_pos rfl, if_pos h]
  rfl
theorem listOf_mem {Bs : List LB} {os : List Nat} {q : RR} (h : q ∈ listOf Bs os) : q.x ∈ os ∧ ∃ b, Bs[q.x]? = some b ∧ 2 ≤ q.k ∧ q.k < 2 + b.recs.length ∧ (q.kind, q.body) ∈ b.recs := by
  obtain ⟨x, hx, hq⟩ := List.mem_flatMap.1 h
  unfold blkRecs at hq
  obtain ⟨h1, h2, h3, h4⟩ := recsAt_mem hq
  cases e : Bs[x]? with
  | none => rw [e] at h3; simp at h3; omega
  | some b =>
    rw [e] at h3 h4
    subst h1
    exact ⟨hx, b, e, h2, h3, h4⟩
section
variable {Bs : List LB} {os : List Nat} {num x n : Nat} {b : LB} {r : LRec}
theorem listOf_put (ho : LOk Bs os num) (hx : os.getLast? = some x) (hb : Bs[x]? = some b) : listOf (Bs.set x (b.put r)) os = listOf Bs os ++ [⟨r.1, r.2, x, 2 + b.recs.length⟩] := by
  obtain ⟨os', rfl⟩ : ∃ os', os = os' ++ [x] := List.getLast?_eq_some_iff.1 hx
  have hn := ho.ord.nodup
  rw [List.nodup_append] at hn
  have hd : ∀ y ∈ os', y ≠ x := fun y hy e => hn.2.2 y hy x (List.mem_singleton.2 rfl) e
  show List.flatMap _ (os' ++ [x]) = List.flatMap _ (os' ++ [x]) ++ _
  rw [List.flatMap_append, List.flatMap_append]
  have e1 : List.flatMap (blkRecs (Bs.set x (b.put r))) os' = List.flatMap (blkRecs Bs) os' := listOf_congr fun y hy => blkRecs_set (hd y hy)
  rw [e1]
  simp only [List.flatMap_cons, List.flatMap_nil, List.append_nil]
  rw [blkRecs_set_same (get_lt hb), blkRecs_get hb, List.append_assoc]
  congr 1
  exact recsAt_snoc x b.recs r
theorem listOf_new (hb : Bs[x]? = some b) (hx : x ∉ os) : listOf ((Bs.set x (b.begin_ n)).set x ((b.begin_ n).put r)) (os ++ [x]) = listOf Bs os ++ [⟨r.1, r.2, x, 2⟩] := by
  rw [List.set_set]
  show List.flatMap _ (os ++ [x]) = List.flatMap _ os ++ _
  rw [List.flatMap_append]
  have e1 : List.flatMap (blkRecs (Bs.set x ((b.begin_ n).put r))) os = List.flatMap (blkRecs Bs) os := listOf_congr fun y hy => blkRecs_set (fun e => hx (e ▸ hy))
  rw [e1]
  simp only [List.flatMap_cons, List.flatMap_nil, List.append_nil]
  rw [blkRecs_set_same (get_lt hb)]
  rfl
/-- the records that don't stand in a block -/
def without (L : List RR) (z : Int) : List RR := L.filter (fun r => decide ((r.x : Int) ≠ z))
theorem blk_keep {y : Nat} {z : Int} : (blkRecs Bs y).filter (fun r => decide ((r.x : Int) ≠ z)) = if (y : Int) ≠ z then blkRecs Bs y else [] := by
  by_cases e : (y : Int) ≠ z
  · rw [if_pos e]
    refine List.filter_eq_self.2 fun q hq => decide_eq_true ?_
    unfold blkRecs at hq
    rw [(recsAt_mem hq).1]
    exact e
  · rw [if_neg e]
    refine List.filter_eq_nil_iff.2 fun q hq => ?_
    unfold blkRecs at hq
    rw [(recsAt_mem hq).1]
    simpa using e
theorem listOf_drop {b' : LB} : listOf (Bs.set x b') (os.filter (fun y => decide (y ≠ x))) = without (listOf Bs os) (x : Int) := by
  unfold listOf without
  induction os with
  | nil => rfl
  | cons y os ih =>
    rw [List.flatMap_cons, List.filter_append, blk_keep, ← ih]
    by_cases e : y = x
    · subst e
      rw [List.filter_cons_of_neg (by simp), if_neg (by simp)]
      rfl
    · rw [List.filter_cons_of_pos (by simpa using e), if_pos (by omega), List.flatMap_cons, blkRecs_set e]
theorem listOf_keep {z : Int} (h : ∀ y ∈ os, (y : Int) ≠ z) : without (listOf Bs os) z = listOf Bs os := by
  unfold without
  refine List.filter_eq_self.2 fun q hq => decide_eq_true (h _ (listOf_mem hq).1)
/-- an entry, by its segment's place and its own in that -/
theorem listOf_at {q j : Nat} (hq : os[q]? = some x) (hb : Bs[x]? = some b) (hj : b.recs[j]? = some r) : (listOf Bs os)[(listOf Bs (os.take q)).length + j]? = some ⟨r.1, r.2, x, 2 + j⟩ := by
  have e : os = os.take q ++ x :: os.drop (q + 1) := by
    have h1 := List.take_append_drop q os
    have h2 := get_lt hq
    rw [List.drop_eq_getElem_cons h2] at h1
    rw [List.getElem?_eq_getElem h2] at hq
    rw [Option.some.inj hq] at h1
    exact h1.symm
  have e2 : listOf Bs os = listOf Bs (os.take q) ++ (recsAt x b.recs ++ listOf Bs (os.drop (q + 1))) := by
    conv => lhs; rw [e]
    unfold listOf
    rw [List.flatMap_append, List.flatMap_cons, blkRecs_get hb]
  rw [e2, List.getElem?_append_right (by omega), Nat.add_sub_cancel_left, List.getElem?_append_left (by rw [recsAt_len]; exact get_lt hj)]
  exact recsAt_get hj
theorem listOf_take {q : Nat} (hq : os[q]? = some x) (hb : Bs[x]? = some b) : (listOf Bs (os.take (q + 1))).length = (listOf Bs (os.take q)).length + b.recs.length := by
  rw [List.take_add_one, hq]
  unfold listOf
  rw [List.flatMap_append]
  simp [blkRecs_get hb, recsAt_len]
end
theorem getM_near {p : List UInt8} {r : LRec} (hr : recOk r) (h : Near p (recP r)) : ∃ m, m ≤ 1 ∧ getM p = (r.1, r.2, m, 0) := by
  obtain ⟨m, hm, e⟩ := near_read hr.2 hr.1.1 hr.1.2.1 h
  refine ⟨m, hm, ?_⟩
  unfold getM
  rw [e]
  simp only
  rw [if_neg (by simp), if_neg (by rintro (q | q); exact hr.1.2.2.2.1 q; exact hr.1.2.2.2.2 q)]
theorem goodP_near {p : List UInt8} {r : LRec} (hr : recOk r) (h : Near p (recP r)) : goodP p = true := by
  obtain ⟨m, _, e⟩ := getM_near hr h
  unfold goodP
  rw [e, decide_eq_true rfl, decide_eq_true ⟨hr.1.2.2.1, hr.1.2.2.2.1, hr.1.2.2.2.2⟩]
  rfl
theorem goodP_ff : goodP NM.ff = false := by
  unfold goodP getM
  rw [ff_read]
  rfl
theorem page_at {b : LB} (hs : b.seg = true) {j : Nat} {r : LRec} (hj : b.recs[j]? = some r) : b.pages.getD (2 + j) [] = recP r := by
  rw [pages_seg hs, List.getD_eq_getElem?_getD, show 2 + j = j + 1 + 1 by omega, List.getElem?_cons_succ, List.getElem?_cons_succ, List.getElem?_map, hj]
  rfl
/-- the places of a segment's records -/
theorem recTo_has {B : Bk} {b : LB} (h : HasN B b.pages) (hs : b.seg = true) (hok : b.ok) : ∀ k, k ≤ 8 → recTo (fun k => B.pg.getD k []) k = (List.range (min (k - 2) b.recs.length)).map (fun j => 2 + j)
  | 0, _ => by show [] = _; simp
  | k + 1, hk => by
    have ih := recTo_has h hs hok k (by omega)
    unfold recTo
    have hpl := pages_len_seg hs
    by_cases c : 2 ≤ k
    · by_cases c2 : k < 2 + b.recs.length
      · have hn := h.pg k (by omega)
        have e : b.pages.getD k [] = recP (b.recs[k - 2]'(by omega)) := by
          have := page_at hs (j := k - 2) (List.getElem?_eq_getElem (by omega))
          rw [show 2 + (k - 2) = k by omega] at this
          exact this
        rw [e] at hn
        have hg := goodP_near (hok.kinds _ (List.getElem_mem _)) hn
        rw [if_pos ⟨c, hg⟩, ih, show min (k + 1 - 2) b.recs.length = min (k - 2) b.recs.length + 1 by omega, List.range_succ, List.map_append]
        simp only [List.map_cons, List.map_nil]
        rw [show 2 + min (k - 2) b.recs.length = k by omega]
      · rw [h.ff k (by omega) (by omega), if_neg (by rw [goodP_ff]; simp), ih, show min (k + 1 - 2) b.recs.length = min (k - 2) b.recs.length by omega]
    · rw [if_neg (fun q => c q.1), ih, show min (k + 1 - 2) b.recs.length = min (k - 2) b.recs.length by omega]
/-- what Get tells of a segment's record -/
theorem getM_has {B : Bk} {b : LB} (h : HasN B b.pages) (hs : b.seg = true) (hok : b.ok) {j : Nat} {r : LRec} (hj : b.recs[j]? = some r) : ∃ m, m ≤ 1 ∧ getM (B.pg.getD (2 + j) []) = (r.1, r.2, m, 0) := by
  have hl := get_lt hj
  have hpl := pages_len_seg hs
  have hn := h.pg (2 + j) (by omega)
  have e := page_at hs hj
  rw [e] at hn
  exact getM_near (hok.kinds r (List.mem_of_getElem? hj)) hn
end Go.Proofs.YtdiocjneakfdgaaGreatDoor

/- A log that is made anew over a used disk: plain facts, and its calls. Condition: the used log was in order; few calls so far. -/
namespace Go.Proofs.YtdiocjneakfdgaaGreatDoor
open Go.RowKit
def emp (M : Nat) : List LB := List.replicate M (LB.fresh 2)
def emp1 (M : Nat) : List LB := (emp M).set 0 ⟨2, false, true, 1, 3, [(40, [])]⟩
theorem own_blk4 {w : World} {b n c : Nat} {e : TypeId} {A : Option Addr} {xs : List Value} (h : w.ownsRow b e 4 (.slice A n c) n xs) (hn : 0 < n) : ∃ g E, A = some ⟨g, 0, none⟩ ∧ b ≤ g ∧ g < w.heap.size ∧ Blk w g e (xs ++ E) ∧ n ≤ c ∧ c ≤ maxLen := by
  rcases h.2 with ⟨_, h0⟩ | ⟨g, cap, cur, hv, hg, hh, hc, hm, hs, ht⟩
  · omega
  · obtain ⟨rfl, _, rfl⟩ := Value.slice.inj hv
    have hlt : g < w.heap.size := by
      rcases Nat.lt_or_ge g w.heap.size with q | q
      · exact q
      · rw [Array.getElem?_eq_none q] at hh; cases hh
    refine ⟨g, cur.toList.drop (n * 4), rfl, hg, hlt, ?_, hc, hm⟩
    rw [← ht, List.take_append_drop]
    exact hh
section
variable {w : World} {g h d t : Nat} {a : At} {X : DS} {N C : Nat} {f : Nat → LRec} {n : Nat} {Bs : List LB} {num : Nat} {os : List Nat}
end
end Go.Proofs.YtdiocjneakfdgaaGreatDoor

/- What LogWear's rounds do with a log: six records a round, each segment full at a round's end. No condition. -/
namespace Go.Proofs.YtdiocjneakfdgaaGreatDoor
open Go.RowKit
/-- j records of the last segment are written, all other segments are full -/
structure FullW (Bs : List LB) (os : List Nat) (j : Nat) : Prop where
  all : ∀ y b, Bs[y]? = some b → b.seg = true → b.next = 8 ∨ (0 < j ∧ os.getLast? = some y)
  last : 0 < j → ∃ x b, os.getLast? = some x ∧ Bs[x]? = some b ∧ b.seg = true ∧ b.next = 2 + j
section
variable {w : World} {g h d t : Nat} {a : At} {X : DS} {N C : Nat} {Bs : List LB} {os : List Nat} {num : Nat}
end
/-- what the law counts as the least wear of a free block, of the first k -/
def leastW (f : Nat → Nat) (used : Nat → Bool) : Nat → Nat
  | 0 => 1152921504606846976
  | k + 1 => if used k = true then leastW f used k else min (leastW f used k) (f k)
theorem order_nodup {Bs : List LB} {os : List Nat} (h : IsOrder Bs os) : os.Nodup := by
  refine List.Pairwise.imp (fun {x y} q e => ?_) h.pw
  rw [e] at q
  exact Nat.lt_irrefl _ q
theorem order_len {Bs : List LB} {os : List Nat} {M : Nat} (h : IsOrder Bs os) (hM : Bs.length = M) : os.length ≤ M := by
  have hp : os.Perm ((List.range M).filter (segAt Bs)) := (List.perm_ext_iff_of_nodup (order_nodup h) (List.nodup_range.filter _)).2 fun x => by
    rw [h.mem]
    rw [List.mem_filter, List.mem_range]
    exact ⟨fun q => ⟨by rw [← hM]; exact segAt_lt q, q⟩, fun q => q.2⟩
  rw [hp.length_eq]
  have := List.length_filter_le (segAt Bs) (List.range M)
  rwa [List.length_range] at this
theorem segRows_at {Bs : List LB} : ∀ {os : List Nat} {rs : List Value} {k x : Nat}, os.length = rs.length → os[k]? = some x → ∃ r, rs[k]? = some r ∧ ∀ E, ((segRows Bs os rs ++ E).drop (k * 4)).take 4 = segRow Bs x r
  | [], _, k, x, _, h => by simp at h
  | _ :: _, [], _, _, h, _ => by cases h
  | y :: os, q :: rs, 0, x, _, h => by
    simp only [List.getElem?_cons_zero, Option.some.injEq] at h
    subst h
    exact ⟨q, rfl, fun E => rfl⟩
  | y :: os, q :: rs, k + 1, x, hl, h => by
    obtain ⟨r, h1, h2⟩ := segRows_at (Bs := Bs) (os := os) (rs := rs) (k := k) (x := x) (by simpa using hl) (by simpa using h)
    refine ⟨r, by simpa using h1, fun E => ?_⟩
    have := h2 E
    rw [show (k + 1) * 4 = k * 4 + 4 by omega]
    exact this
theorem PlsS.one {W : World} {B : Nat} {f : Nat → List Nat} : ∀ {os : List Nat} {rs : List Value}, PlsS W B f os rs → ∀ v ∈ rs, v.oneCell' = true
  | [], [], _, v, hv => by cases hv
  | [], _ :: _, h, _, _ => by cases h
  | _ :: _, [], h, _, _ => by cases h
  | x :: os, r :: rs, h, v, hv => by
    rcases List.mem_cons.1 hv with rfl | q
    · obtain ⟨A, c, rfl, _⟩ := h.1
      rfl
    · exact PlsS.one h.2 v q
/-- a slice of segments, read cell by cell -/
def SegB (w : World) (B : Nat) (A : Option Addr) (Bs : List LB) (os : List Nat) : Prop := ∀ k x, os[k]? = some x → ∃ q cs r, A = some ⟨q, 0, none⟩ ∧ B ≤ q ∧ Blk w q 51 cs ∧ (cs.drop (k * 4)).take 4 = segRow Bs x r ∧ r.oneCell' = true
theorem SegB.of {w : World} {B : Nat} {A : Option Addr} {c : Nat} {Bs : List LB} {os : List Nat} {rs : List Value} {f : Nat → List Nat} (h : w.ownsRow B 51 4 (.slice A os.length c) os.length (segRows Bs os rs)) (hp : PlsS w B f os rs) : SegB w B A Bs os := fun k x hk => by
  obtain ⟨q, E, rfl, h1, _, hB, _, _⟩ := own_blk4 h (by have := get_lt hk; omega)
  obtain ⟨r, h2, h3⟩ := segRows_at (Bs := Bs) hp.length hk
  exact ⟨q, _, r, rfl, h1, hB, h3 E, hp.one r (List.mem_of_getElem? h2)⟩
theorem SegB.chg {w w' : World} {B : Nat} {A : Option Addr} {Bs : List LB} {os : List Nat} {T : Nat → Prop} (h : SegB w B A Bs os) (hc : Chg w w' T) (hT : ∀ k, T k → k < B) : SegB w' B A Bs os := fun k x hk => by
  obtain ⟨q, cs, r, h1, h2, h3, h4, h5⟩ := h k x hk
  exact ⟨q, cs, r, h1, h2, h3.chg hc (fun e => by have := hT q e; omega), h4, h5⟩
theorem aggSg : ∀ w, (isAgg 51).run Tryz.prog w = .ok true w := fun _ => by kernel_rfl
theorem sizeSg : ∀ w, (sizeOf 51).run Tryz.prog w = .ok 4 w := fun _ => by kernel_rfl
theorem zeroSg (w : World) : (zeroValue 51).run Tryz.prog w = .ok (.agg #[.int .i64 0, .int .u64 0, .int .u64 0, .slice none 0 0]) w := by kernel_rfl
theorem least_free0 {Bs : List LB} : ∀ {k : Nat}, leastTo Bs k = none → freeTo Bs k = 0
  | 0, _ => rfl
  | k + 1, h => by
    rw [leastTo_succ] at h
    by_cases e : segAt Bs k = true
    · rw [if_pos e] at h
      unfold freeTo
      rw [least_free0 h, if_pos e]
    · rw [if_neg e] at h
      cases q : leastTo Bs k with
      | none => rw [q] at h; cases h
      | some m => rw [q] at h; simp only at h; split at h <;> cases h
end Go.Proofs.YtdiocjneakfdgaaGreatDoor

/- A log's Append, whatever is handed in. Condition: the log is in order, its free blocks are clear; few calls so far. -/
namespace Go.Proofs.YtdiocjneakfdgaaGreatDoor
open Go.RowKit
/-- the document's Right -/
def rightM (kind : UInt8) (n : Nat) : Prop := 3 < kind.toNat ∧ kind.toNat < 255 ∧ n ≤ 240
theorem right_rec {kind : UInt8} {body : List UInt8} (h : rightM kind body.length) : recOk (kind, body) := by
  obtain ⟨h1, h2, h3⟩ := h
  have e : ∀ m : UInt8, kind = m → kind.toNat = m.toNat := fun m q => by rw [q]
  refine ⟨⟨fun q => ?_, fun q => ?_, fun q => ?_, fun q => ?_, fun q => ?_⟩, h3⟩ <;> have := e _ q <;> simp at this <;> omega
section
variable {w : World} {g h d t : Nat} {a : At} {X : DS} {N C : Nat} {Bs : List LB} {num : Nat} {os : List Nat}
set_option maxRecDepth 100000 in
set_option maxHeartbeats 8000000 in
theorem append_arg (l : LogS w g h d t a X N C Bs os num) (kind : UInt8) (v : Value) (L : List (List UInt8)) (B : Nat) (hB : B ≤ w.heap.size) (hv : Parts w B v L) (hlen : L.flatten.length ≤ 1000000) (hr : ¬ rightM kind L.flatten.length) :
    Calls Tryz.prog 16 #[.pointer (some ⟨g, 0, none⟩), .int .u8 ((kind.toNat : Nat) : Int), v] w fun e w' => e = .returned (.tuple #[.agg (plc 0 0).toArray, .int .i64 1]) ∧ Below w.heap.size w w' := by
  have b1 := Lib.hid ((Below.refl w.heap.size w).alloc (Nat.le_refl _) (.cells #[.int .i64 0, .int .i64 0] 44))
  have R1 := Lib.hid (show Blk (w.alloc (.cells #[.int .i64 0, .int .i64 0] 44)) w.heap.size 44 (plc 0 0) from Blk.new w 44 (plc 0 0))
  have KH := Lib.hid (holds_any kind (w.alloc (.cells #[.int .i64 0, .int .i64 0] 44)))
  by_cases hk : kind ≠ 1 ∧ kind ≠ 2 ∧ kind ≠ 3
  · rw [decide_eq_true hk] at KH
    have z := zeroPage
    have KW := Lib.hid (write_any kind v L _ B (by rw [World.size_alloc]; omega) (hv.alloc hB _) (l.lg.dk.tab.below b1.out l.lg.dk.tab.lt) hlen)
    have hw : FM.writeM kind L.flatten = (List.replicate 258 0, 1) := by
      unfold FM.writeM
      rw [if_pos]
      by_cases c1 : kind = 0
      · exact .inl c1
      · by_cases c2 : kind = 255
        · exact .inr (.inl c2)
        · refine .inr (.inr ?_)
          have e : ∀ m : UInt8, kind.toNat = m.toNat → kind = m := fun m q => UInt8.toNat_inj.1 q
          have n1 : kind.toNat ≠ 0 := fun q => c1 (e 0 q)
          have n2 : kind.toNat ≠ 255 := fun q => c2 (e 255 q)
          have n3 : kind.toNat ≠ 1 := fun q => hk.1 (e 1 q)
          have n4 : kind.toNat ≠ 2 := fun q => hk.2.1 (e 2 q)
          have n5 : kind.toNat ≠ 3 := fun q => hk.2.2 (e 3 q)
          have n6 := kind.toNat_lt
          unfold rightM at hr
          omega
    rw [hw] at KW
    have hpl : (List.replicate 258 (0 : UInt8)).length = 258 := List.length_replicate ..
    obtain ⟨p, hp⟩ : ∃ p, List.replicate 258 (0 : UInt8) = p := ⟨_, rfl⟩
    rw [hp] at KW hpl
    have HPL := Lib.hid hpl
    clear l hv hr hk hw hp hB hlen hpl
    go_enter Tryz.func16, Tryz.ntmps16
    go_wp2_with (first
      | (go_at_call 34; ((with_reducible refine KH.out.mono ?_); rintro e w' ⟨rfl, rfl⟩; clear KH))
      | (go_at_call 35; ((with_reducible refine KW.out.mono ?_); rintro e w1 ⟨rfl, c1⟩; have B1 := Lib.hid (b1.out.trans (c1.mono b1.out.size)); have R2 := (R1.out.after c1).alloc (.cells (cl pzeros) 92); have N1 := PArr.new w1 pzeros_length; have hs1 := Lib.hid (R1.out.after c1).lt; clear KW c1))
      | (with_reducible refine wpl_pstore (.tmp 8) (.tmp 22) rfl rfl N1 rfl HPL.out rfl ?_; intro w2 P2 g2 e2; have B2 := Lib.hid ((B1.out.alloc B1.out.size (.cells (cl pzeros) 92)).grown g2 (by rw [World.size_alloc]; have := B1.out.size; omega) (fun k e => by cases e; exact B1.out.size)); have R3 := (R2.grown g2 (by simp; have := hs1.out; omega)); clear N1 R2 g2 e2 P2)
      | (with_reducible refine wpl_seg_store sizePl (.tmp 6) (.tmp 26) rfl rfl R3 0 (plc 0 0) rfl (Nat.le_refl _) (plc_one 0 0) rfl rfl _ rfl ?_; intro w8 R8 g8 e8))
    refine bodyPost_ret (plret2 rfl _ R8 rfl rfl) rfl ?_
    exact ⟨rfl, B2.out.grown g8 B2.out.size (fun k e => by cases e; exact Nat.le_refl _)⟩
  · rw [decide_eq_false hk] at KH
    clear l hv hr hk hB hlen
    go_enter Tryz.func16, Tryz.ntmps16
    go_wp2_with (first
      | (go_at_call 34; ((with_reducible refine KH.out.mono ?_); rintro e w' ⟨rfl, rfl⟩; clear KH))
      | (with_reducible refine wpl_seg_store sizePl (.tmp 6) (.tmp 17) rfl rfl R1.out 0 (plc 0 0) rfl (Nat.le_refl _) (plc_one 0 0) rfl rfl _ rfl ?_; intro w8 R8 g8 e8))
    refine bodyPost_ret (plret2 rfl _ R8 rfl rfl) rfl ?_
    exact ⟨rfl, b1.out.grown g8 b1.out.size (fun k e => by cases e; exact Nat.le_refl _)⟩
/-- all wears are at most so -/
def WearLe (Bs : List LB) (n : Nat) : Prop := ∀ b ∈ Bs, b.wear ≤ n
theorem WearLe.set {Bs : List LB} {n x : Nat} {b' : LB} (h : WearLe Bs n) (hb : b'.wear ≤ n) : WearLe (Bs.set x b') n := fun q hq => by
  rcases mem_set hq with rfl | hq
  · exact hb
  · exact h q hq
theorem free_seg {Bs : List LB} {x : Nat} (h : segAt Bs x = false) (os : List Nat) (ho : IsOrder Bs os) : x ∉ os := fun q => by
  rw [(ho.mem x).1 q] at h; cases h
/-- what Append does -/
def Apd (Bs : List LB) (os : List Nat) (N : Nat) (kind : UInt8) (body : List UInt8) (Bs' : List LB) (os' : List Nat) (x k r : Nat) : Prop :=
  (¬ rightM kind body.length ∧ r = 1 ∧ listOf Bs' os' = listOf Bs os) ∨
  (rightM kind body.length ∧ r = 0 ∧ listOf Bs' os' = listOf Bs os ++ [⟨kind, body, x, k⟩] ∧ 2 ≤ k ∧ ∀ q ∈ listOf Bs os, ¬ (q.x = x ∧ q.k = k)) ∨
  (rightM kind body.length ∧ r = 40 ∧ listOf Bs' os' = listOf Bs os ∧ freeTo Bs (N - 6) = 0 ∧ roomOf Bs os = 0)
theorem append_all (l : LogS w g h d t a X N C Bs os num) (hnum : num < 1000000) {n : Nat} (hw : WearLe Bs n) (hC : C ≤ 3900) (kind : UInt8) (v : Value) (L : List (List UInt8)) (B : Nat) (hB : B ≤ w.heap.size) (hv : Parts w B v L) (hlen : L.flatten.length ≤ 1000000) :
    Calls Tryz.prog 16 #[.pointer (some ⟨g, 0, none⟩), .int .u8 ((kind.toNat : Nat) : Int), v] w fun e w' => ∃ x k r : Nat, e = .returned (.tuple #[.agg (plc x k).toArray, .int .i64 (r : Int)]) ∧ ∃ X' Bs' os' num', LogS w' g h d t a X' N (C + 10) Bs' os' num' ∧ num' ≤ num + 1 ∧ WearLe Bs' n ∧ Chg w w' (a.log t d g h) ∧ Apd Bs os N kind L.flatten Bs' os' x k r := by
  by_cases hr : rightM kind L.flatten.length
  · have hrec := right_rec hr
    by_cases hc : ∃ x b, os.getLast? = some x ∧ Bs[x]? = some b ∧ b.next < 8
    · obtain ⟨x, b, hx, hb, h8⟩ := hc
      refine (append_in l hx hb h8 hC kind v L B hB hv hrec).mono ?_
      rintro e w' ⟨rfl, X', l', c'⟩
      have hs : b.seg = true := by
        have := (l.o.ord.mem x).1 (List.mem_of_getLast? hx)
        rwa [segAt_get hb] at this
      have hnx : b.next = 2 + b.recs.length := by
        rcases (l.o.ok b (get_mem hb)).len hs with q | q <;> omega
      refine ⟨x, b.next, 0, rfl, X', _, _, _, l'.more (by omega), Nat.le_succ _, hw.set (b' := b.put (kind, L.flatten)) (hw b (get_mem hb)), c', .inr (.inl ⟨hr, rfl, ?_, by omega, fun q hq e => ?_⟩)⟩
      · rw [listOf_put l.o hx hb, hnx]
      · obtain ⟨_, b2, h1, _, h3, _⟩ := listOf_mem hq
        rw [e.1, hb] at h1
        cases h1
        omega
    · have hput : ∀ (w' : World), Lg w' g h d t a X N C Bs num → LOk Bs os num → ∀ p, Calls Tryz.prog 36 #[.pointer (some ⟨g, 0, none⟩), .agg (cl p)] w' fun e w2 => e = .returned (.tuple #[.agg (plc 0 0).toArray, .bool false, .int .i64 0]) ∧ Below w'.heap.size w' w2 := fun w' hl ho p => by
        cases hz : os.getLast? with
        | none => exact put_none hl ho hz p
        | some z =>
          have hs := (ho.ord.mem z).1 (List.mem_of_getLast? hz)
          obtain ⟨b, hb⟩ : ∃ b, Bs[z]? = some b := ⟨_, List.getElem?_eq_getElem (segAt_lt hs)⟩
          refine put_full hl ho hz hb ?_ p
          rw [segAt_get hb] at hs
          have h8 : ¬ b.next < 8 := fun q => hc ⟨z, b, hz, hb, q⟩
          rcases (ho.ok b (get_mem hb)).len hs with q | q
          · have := (ho.ok b (get_mem hb)).recs
            omega
          · exact q
      cases hno : leastTo Bs (N - 6) with
      | none =>
        refine (append_no l hput hno kind v L B hB hv hrec).mono ?_
        rintro e w' ⟨rfl, b'⟩
        refine ⟨0, 0, 40, rfl, X, _, _, _, (l.after b').more (by omega), Nat.le_succ _, hw, Chg.of_below b', .inr (.inr ⟨hr, rfl, rfl, least_free0 hno, ?_⟩)⟩
        unfold roomOf
        cases hz : os.getLast? with
        | none => rfl
        | some z =>
          show 8 - nextAt Bs z = 0
          have hs := (l.o.ord.mem z).1 (List.mem_of_getLast? hz)
          obtain ⟨b, hb⟩ : ∃ b, Bs[z]? = some b := ⟨_, List.getElem?_eq_getElem (segAt_lt hs)⟩
          rw [nextAt_get hb]
          have h8 : ¬ b.next < 8 := fun q => hc ⟨z, b, hz, hb, q⟩
          omega
      | some x =>
        obtain ⟨hx1, hx2, _⟩ := leastTo_some _ _ hno
        obtain ⟨b, hb⟩ : ∃ b, Bs[x]? = some b := ⟨_, List.getElem?_eq_getElem (by rw [l.lg.len]; exact hx1)⟩
        refine (append_new l hput hno hb hnum hC kind v L B hB hv hrec).mono ?_
        rintro e w' ⟨rfl, X', l', c'⟩
        have hxo : x ∉ os := free_seg hx2 os l.o.ord
        refine ⟨x, 2, 0, rfl, X', _, _, _, l', Nat.le_refl _, (hw.set (b' := b.begin_ (num + 1)) (hw b (get_mem hb))).set (b' := (b.begin_ (num + 1)).put (kind, L.flatten)) (hw b (get_mem hb)), c', .inr (.inl ⟨hr, rfl, listOf_new hb hxo, Nat.le_refl _, fun q hq e => ?_⟩)⟩
        have := (listOf_mem hq).1
        rw [e.1] at this
        exact hxo this
  · refine (append_arg l kind v L B hB hv hlen hr).mono ?_
    rintro e w' ⟨rfl, b'⟩
    exact ⟨0, 0, 1, rfl, X, _, _, _, (l.after b').more (by omega), Nat.le_succ _, hw, Chg.of_below b', .inl ⟨hr, rfl, rfl⟩⟩
/-- what Drop does -/
theorem drop_all (l : LogS w g h d t a X N C Bs os num) {n : Nat} (hw : WearLe Bs n) (hn : n < 1000000) (hC : C ≤ 3900) (z : Int) :
    Calls Tryz.prog 9 #[.pointer (some ⟨g, 0, none⟩), .int .i64 z] w fun e w' => e = .returned (.int .i64 (if ∃ y ∈ os, (y : Int) = z then 0 else 1)) ∧ ∃ X' Bs' os', LogS w' g h d t a X' N (C + 10) Bs' os' num ∧ WearLe Bs' (n + 1) ∧ Chg w w' (a.log t d g h) ∧ listOf Bs' os' = without (listOf Bs os) z := by
  by_cases hz : ∃ y ∈ os, (y : Int) = z
  · obtain ⟨x, hx, rfl⟩ := id hz
    have hs := (l.o.ord.mem x).1 hx
    obtain ⟨b, hb⟩ : ∃ b, Bs[x]? = some b := ⟨_, List.getElem?_eq_getElem (segAt_lt hs)⟩
    rw [segAt_get hb] at hs
    have hbw := hw b (get_mem hb)
    refine (drop_yes l hb hs (by omega) hC).mono ?_
    rintro e w' ⟨rfl, X', l', c'⟩
    exact ⟨by rw [if_pos hz], X', _, _, l', fun q hq => by
      rcases mem_set hq with rfl | hq
      · show b.wear + 1 ≤ _; omega
      · have := hw q hq; omega, c', listOf_drop⟩
  · have hno : isSegM Bs z = false := by
      cases e : isSegM Bs z with
      | false => rfl
      | true =>
        exfalso
        unfold isSegM at e
        rw [Bool.and_eq_true, decide_eq_true_eq] at e
        exact hz ⟨z.toNat, (l.o.ord.mem _).2 e.2, by omega⟩
    refine (drop_no l z hno).mono ?_
    rintro e w' ⟨rfl, rfl⟩
    exact ⟨by rw [if_neg hz], X, Bs, os, l.more (by omega), fun q hq => by have := hw q hq; omega, Chg.refl _ _, (listOf_keep (fun y hy e => hz ⟨y, hy, e⟩)).symm⟩
end
end Go.Proofs.YtdiocjneakfdgaaGreatDoor


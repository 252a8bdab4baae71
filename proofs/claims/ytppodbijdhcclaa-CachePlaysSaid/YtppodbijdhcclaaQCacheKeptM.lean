/- What CacheKept needs, plainly: the source behind a cache's changes has the nodes that the cache told. No condition. -/
import Derived.Test.YtppodbijdhcclaaQCacheOnceM
import Derived.Test.YtppodbijdhcclaaQStCommit
namespace Go.Proofs.Ytppodbijdhcclaa
open Go Go.RowKit
/-- changes that may be -/
def PGood (P : Int → Option CE) : Prop := ∀ z e, P z = some e → (0 ≤ z ∧ z < 256) ∧ e.body.length ≤ 224
theorem PGood.none : PGood (fun _ => none) := fun z e h => by cases h
theorem PGood.small {P : Int → Option CE} (h : PGood P) : ∀ z e, P z = some e → e.body.length ≤ 100000 := fun z e he => Nat.le_trans (h z e he).2 (by omega)
theorem PGood.putTo {P : Int → Option CE} (h : PGood P) (cs : List CV) (ls : List (List UInt8)) (hx : ∀ (i : Nat) (x : CV), cs[i]? = some x → (0 ≤ x.k ∧ x.k < 256) ∧ (ls.getD i []).length ≤ 224) : ∀ k, k ≤ cs.length → PGood (putTo P cs ls k)
  | 0, _ => h
  | k + 1, hk => fun z e he => by
    obtain ⟨x, hxk⟩ : ∃ x, cs[k]? = some x := ⟨_, List.getElem?_eq_getElem (by omega)⟩
    have h1 : putP (Go.Proofs.Ytppodbijdhcclaa.putTo P cs ls k) (cs.getD k ⟨0, false, .none, 0, 0⟩).k (cs.getD k ⟨0, false, .none, 0, 0⟩).g (ls.getD k []) z = some e := he
    rw [List.getD_eq_getElem?_getD, hxk, Option.getD_some] at h1
    have h2 := hx k x hxk
    unfold putP at h1
    split at h1
    · rename_i ez
      cases h1
      subst ez
      refine ⟨h2.1, ?_⟩
      dsimp only
      split
      · simp
      · exact h2.2
    · exact PGood.putTo h cs ls hx k (by omega) z e h1
def cvOf (x : Int × CE) : CV := ⟨x.1, x.2.gone, none, (chBody x).length, 0⟩
theorem kg_cvOf (L : List (Int × CE)) : (L.map cvOf).map kg = L.map chKg := by rw [List.map_map]; rfl
theorem putTo_pre (P : Int → Option CE) (cs ds : List CV) (ls ms : List (List UInt8)) (hl : cs.length = ls.length) : ∀ k, k ≤ cs.length → putTo P (cs ++ ds) (ls ++ ms) k = putTo P cs ls k
  | 0, _ => rfl
  | k + 1, hk => by
    show putP (putTo P (cs ++ ds) (ls ++ ms) k) _ _ _ = putP (putTo P cs ls k) _ _ _
    rw [putTo_pre P cs ds ls ms hl k (by omega), List.getD_eq_getElem?_getD, List.getD_eq_getElem?_getD, List.getD_eq_getElem?_getD, List.getD_eq_getElem?_getD, List.getElem?_append_left (by omega), List.getElem?_append_left (by omega)]
theorem putTo_snoc (P : Int → Option CE) (cs : List CV) (x : CV) (ls : List (List UInt8)) (l : List UInt8) (hl : cs.length = ls.length) : putTo P (cs ++ [x]) (ls ++ [l]) (cs.length + 1) = putP (putTo P cs ls cs.length) x.k x.g l := by
  show putP (putTo P (cs ++ [x]) (ls ++ [l]) cs.length) _ _ _ = _
  rw [putTo_pre P cs [x] ls [l] hl cs.length (Nat.le_refl _), List.getD_eq_getElem?_getD, List.getD_eq_getElem?_getD, List.getElem?_append_right (Nat.le_refl _), hl, List.getElem?_append_right (Nat.le_refl _), Nat.sub_self]
  rfl
/-- what counts of P at z -/
def chOf (th : List Bool) (P : Int → Option CE) (z : Int) : Option CE := match P z with
  | some e => if (!e.gone || th.getD z.toNat false) = true then some ⟨e.gone, chBody (z, e)⟩ else none
  | none => none
theorem putTo_chg (th : List Bool) (P : Int → Option CE) : ∀ n z, putTo (fun _ => none) ((chgTo th P n).map cvOf) ((chgTo th P n).map chBody) (chgTo th P n).length z = if 0 ≤ z ∧ z < (n : Int) then chOf th P z else none
  | 0, z => by rw [if_neg (by omega)]; rfl
  | n + 1, z => by
    have ih := putTo_chg th P n z
    by_cases hc : ∃ e, P (n : Int) = some e ∧ (!e.gone || th.getD n false) = true
    · obtain ⟨e, he, hce⟩ := hc
      rw [chgTo_yes he hce, List.map_append, List.map_append, List.length_append, List.map_cons, List.map_nil, List.map_cons, List.map_nil]
      have h1 := putTo_snoc (fun _ => none) ((chgTo th P n).map cvOf) (cvOf ((n : Int), e)) ((chgTo th P n).map chBody) (chBody ((n : Int), e)) (by rw [List.length_map, List.length_map])
      rw [List.length_map] at h1
      show putTo _ _ _ ((chgTo th P n).length + 1) z = _
      rw [h1]
      unfold putP
      show (if z = (n : Int) then some (⟨e.gone, if e.gone = true then [] else chBody ((n : Int), e)⟩ : CE) else _) = _
      by_cases ez : z = (n : Int)
      · subst ez
        rw [if_pos rfl, if_pos (show 0 ≤ (n : Int) ∧ (n : Int) < ((n + 1 : Nat) : Int) by omega)]
        unfold chOf
        rw [he]
        dsimp only
        rw [Int.toNat_natCast, if_pos hce]
        obtain ⟨eg, eb⟩ := e
        cases eg <;> rfl
      · rw [if_neg ez, ih]
        by_cases hz : 0 ≤ z ∧ z < (n : Int)
        · rw [if_pos hz, if_pos (by omega)]
        · rw [if_neg hz, if_neg (by omega)]
    · have hno : chgTo th P (n + 1) = chgTo th P n := chgTo_no (fun e he => by
        by_cases h : (!e.gone || th.getD n false) = true
        · exact absurd ⟨e, he, h⟩ hc
        · simpa using h)
      rw [hno, ih]
      by_cases hz : 0 ≤ z ∧ z < (n : Int)
      · rw [if_pos hz, if_pos (by omega)]
      · rw [if_neg hz]
        by_cases hz2 : 0 ≤ z ∧ z < ((n + 1 : Nat) : Int)
        · rw [if_pos hz2]
          obtain rfl : z = (n : Int) := by omega
          unfold chOf
          cases he : P (n : Int) with
          | none => rfl
          | some e =>
            dsimp only
            rw [Int.toNat_natCast, if_neg (fun h => hc ⟨e, he, h⟩)]
        · rw [if_neg hz2]
theorem chgTo_keys (th : List Bool) (P : Int → Option CE) : ∀ n, (∀ x ∈ chgTo th P n, (0 ≤ x.1 ∧ x.1 < (n : Int)) ∧ P x.1 = some x.2) ∧ (chgTo th P n).Pairwise (fun a b => a.1 ≠ b.1)
  | 0 => ⟨fun x h => by simp [chgTo] at h, List.Pairwise.nil⟩
  | n + 1 => by
    have ih := chgTo_keys th P n
    by_cases hc : ∃ e, P (n : Int) = some e ∧ (!e.gone || th.getD n false) = true
    · obtain ⟨e, he, hce⟩ := hc
      rw [chgTo_yes he hce]
      refine ⟨fun x hx => ?_, List.pairwise_append.2 ⟨ih.2, List.pairwise_singleton _ _, fun a ha b hb => ?_⟩⟩
      · rcases List.mem_append.1 hx with hx | hx
        · have := ih.1 x hx; exact ⟨by omega, this.2⟩
        · simp only [List.mem_singleton] at hx
          subst hx
          exact ⟨by simp; omega, he⟩
      · simp only [List.mem_singleton] at hb
        subst hb
        have := (ih.1 a ha).1
        simp only
        omega
    · have hno : chgTo th P (n + 1) = chgTo th P n := chgTo_no (fun e he => by
        by_cases h : (!e.gone || th.getD n false) = true
        · exact absurd ⟨e, he, h⟩ hc
        · simpa using h)
      rw [hno]
      exact ⟨fun x hx => by have := ih.1 x hx; exact ⟨by omega, this.2⟩, ih.2⟩
theorem rightC_of : ∀ (cs : List CV) (M : List UInt8), M.length = 32 → (∀ x ∈ cs, (0 ≤ x.k ∧ x.k < 256) ∧ x.n ≤ 224) → (cs.Pairwise (fun a b => a.k ≠ b.k)) → (∀ x ∈ cs, lhas M x.k = false) → rightC M cs = true
  | [], _, _, _, _, _ => rfl
  | c :: cs, M, hM, hf, hp, hn => by
    unfold rightC
    have h1 := hf c (.head _)
    rw [if_pos ⟨by unfold fitC; simp [h1.1, h1.2], hn c (.head _)⟩]
    have hp2 := List.pairwise_cons.1 hp
    refine rightC_of cs _ (by rw [lput_length]; exact hM) (fun x hx => hf x (.tail _ hx)) hp2.2 (fun x hx => ?_)
    rw [lhas_lput hM, if_neg (fun h => hp2.1 x hx h.1.symm)]
    exact hn x (.tail _ hx)
/-- the changes of a cache are such as may be -/
theorem changes_right {w : World} {base : Nat} {v : Value} {cs : List CV} {th : List Bool} {P : Int → Option CE} (hP : PGood P) (ho : ChOwn w base v cs ((chgTo th P 256).map chBody)) (hk : cs.map kg = (chgTo th P 256).map chKg) : rightC lzeros cs = true := by
  have hg := chgTo_keys th P 256
  have hget : ∀ (i : Nat) (x : CV), cs[i]? = some x → ∃ y, (chgTo th P 256)[i]? = some y ∧ x.k = y.1 ∧ x.n = (chBody y).length := fun i x hx => by
    have hi := get_lt hx
    have h1 : (cs.map kg)[i]? = ((chgTo th P 256).map chKg)[i]? := by rw [hk]
    rw [List.getElem?_map, List.getElem?_map, hx] at h1
    cases hy : (chgTo th P 256)[i]? with
    | none => rw [hy] at h1; cases h1
    | some y =>
      rw [hy] at h1
      simp only [Option.map_some, Option.some.injEq, kg, chKg, Prod.mk.injEq] at h1
      refine ⟨y, rfl, h1.1, ?_⟩
      rw [ho.n_eq hx, List.getD_eq_getElem?_getD, List.getElem?_map, hy]
      rfl
  refine rightC_of cs lzeros lzeros_length (fun x hx => ?_) ?_ (fun x _ => lhas_lzeros x.k)
  · obtain ⟨i, hi⟩ := List.mem_iff_getElem?.1 hx
    obtain ⟨y, hy, e1, e2⟩ := hget i x hi
    have h1 := hg.1 y (List.mem_of_getElem? hy)
    have h2 := hP _ _ h1.2
    rw [e1, e2]
    refine ⟨h2.1, ?_⟩
    unfold chBody
    split
    · simp
    · exact h2.2
  · rw [List.pairwise_iff_getElem]
    intro i j hi hj hij
    obtain ⟨y, hy, e1, _⟩ := hget i _ (List.getElem?_eq_getElem hi)
    obtain ⟨z, hz, e3, _⟩ := hget j _ (List.getElem?_eq_getElem hj)
    have h1 := (List.pairwise_iff_getElem.1 hg.2) i j (get_lt hy) (get_lt hz) hij
    have e4 := (List.getElem?_eq_some_iff.1 hy).2
    have e5 := (List.getElem?_eq_some_iff.1 hz).2
    rw [e4, e5] at h1
    rw [e1, e3]
    exact h1
/-- the source behind the changes has the nodes that the cache told -/
theorem kept_get {bs : List ByteArray} {th : List Bool} {P : Int → Option CE} {cs : List CV} (hP : PGood P) (hk : cs.map kg = (chgTo th P 256).map chKg) (z : Int) :
    getB (overB bs (putTo (fun _ => none) cs ((chgTo th P 256).map chBody) cs.length)) (overT th (putTo (fun _ => none) cs ((chgTo th P 256).map chBody) cs.length)) (fun _ => none) z = getB bs th P z := by
  have hlen : cs.length = (chgTo th P 256).length := by
    rw [← List.length_map (f := kg), hk, List.length_map]
  have h1 : ∀ y, putTo (fun _ => none) cs ((chgTo th P 256).map chBody) cs.length y = if 0 ≤ y ∧ y < 256 then chOf th P y else none := fun y => by
    rw [putTo_kg (ds := (chgTo th P 256).map cvOf) _ _ (hk.trans (kg_cvOf _).symm) cs.length, hlen]
    exact putTo_chg th P 256 y
  unfold getB
  dsimp only
  by_cases hz : 0 ≤ z ∧ z < 256
  · obtain ⟨k, rfl⟩ : ∃ k : Nat, z = (k : Int) := ⟨z.toNat, by omega⟩
    rw [decide_eq_true hz, Bool.true_and, Int.toNat_natCast, overB_get _ _ (by omega), overT_get _ _ (by omega), h1, if_pos hz]
    unfold chOf
    cases hp : P (k : Int) with
    | none => rfl
    | some e =>
      dsimp only
      rw [Int.toNat_natCast]
      obtain ⟨eg, eb⟩ := e
      cases eg with
      | true => cases ht : th.getD k false <;> simp [chBody]
      | false => simp [chBody]
  · rw [decide_eq_false hz]
    cases hp : P z with
    | none => simp
    | some e => exact absurd (hP z e hp).1 hz
/-- the source makes a cache's changes itself -/
theorem commit_chg (g base : Nat) (t : TypeId) (rest : List Value) (bs : List ByteArray) (th : List Bool) (v : Value) (cs : List CV) (P : Int → Option CE) (w : World) (h : RSt w g t rest bs th) (ho : ChOwn w base v cs ((chgTo th P 256).map chBody)) (hk : cs.map kg = (chgTo th P 256).map chKg) (hP : PGood P) :
    Calls Try.prog 14 #[.pointer (some ⟨g, 0, none⟩), .int .i64 1000, v] w fun e w' => e = .returned (.tuple #[.pointer (some ⟨w.heap.size, 0, none⟩), .int .i64 0]) ∧ RSt w' w.heap.size 30 [] (overB bs (putTo (fun _ => none) cs ((chgTo th P 256).map chBody) cs.length)) (overT th (putTo (fun _ => none) cs ((chgTo th P 256).map chBody) cs.length)) ∧ Below w.heap.size w w' := by
  have hg := chgTo_keys th P 256
  have hr := changes_right hP ho hk
  refine (commit_walk g 0 bs th 1000 v cs _ w h.at0 (ho.chL (fun c hc => wfC (by
    obtain ⟨i, hi⟩ := List.mem_iff_getElem?.1 hc
    exact (rightC_keys hr hi).1))) (by
    rw [← List.length_map (f := kg), hk, List.length_map]
    have := chgTo_len th P 256
    omega)).mono ?_
  rintro e w' ⟨b, (⟨h1, _⟩ | ⟨_, h1, _⟩ | ⟨_, _, rfl, h1⟩)⟩
  · rw [hr] at h1; cases h1
  · have := cntTo_le (overT th (putTo (fun _ => none) cs ((chgTo th P 256).map chBody) cs.length)) 256
    omega
  · exact ⟨rfl, h1, b⟩
theorem CAt.setSrc {w w' : World} {i : CI} {N : Nat} {P : Int → Option CE} {S : Nat → Prop} {bs : List ByteArray} {th : List Bool} {mo : Int} (h : CAt w i N P S) (g : w.grownBy w' (some i.s)) (hs : Src w' i.s bs th mo) (hS : ¬ S i.s) : CAt w' ⟨i.q, i.m, i.s, bs, th, mo⟩ N P S := by
  obtain ⟨c1, c2, c3, c4, c5⟩ := h.lt
  obtain ⟨a1, a2, a3, N0, D, f, a4, a5, a6, a7⟩ := id h
  have hq : i.q ≠ i.s := fun e => by
    have h1 := a1
    unfold Cc Blk at h1
    rw [e, a2.1] at h1
    simp at h1
  exact ⟨Blk.grown a1 g (by simp only [ne_eq, Option.some.injEq]; exact hq), hs, fun b hb => ⟨(a3 b hb).1, Nat.lt_of_lt_of_le (a3 b hb).2 g.size⟩, N0, D, f, a4, a5.kept g (by simp only [ne_eq, Option.some.injEq]; exact fun e => c5 e.symm), a6, a7.grown g (fun b hb e => by cases e; exact hS hb)⟩
theorem over_small {bs : List ByteArray} {P : Int → Option CE} (h : ∀ k, (bs.getD k ByteArray.empty).size ≤ 100000) (hP : PGood P) : ∀ k, ((overB bs P).getD k ByteArray.empty).size ≤ 100000 := fun k => by
  by_cases hk : k < 256
  · rw [overB_get _ _ hk]
    cases hp : P (k : Int) with
    | none => exact h k
    | some e => have := (hP _ _ hp).2; dsimp only; rw [Lib.size_eq]; simp; omega
  · rw [List.getD_eq_getElem?_getD, List.getElem?_eq_none (by rw [overB_len]; omega)]
    decide
/-- the law's old nodes: those that were committed, or none -/
theorem commit_old (g : Nat) (v : Value) (cs : List CV) (ls : List (List UInt8)) (w : World) (h : RSt w g 30 [] (List.replicate 256 ByteArray.empty) (List.replicate 256 false)) (hc : ChL w w.heap.size v cs ls) (hz : cs.length ≤ 1000) :
    Calls Try.prog 14 #[.pointer (some ⟨g, 0, none⟩), .int .i64 1000, v] w fun e w' => ∃ gp r bs th, e = .returned (.tuple #[.pointer (some ⟨gp, 0, none⟩), .int .i64 r]) ∧ RSt w' gp 30 [] bs th ∧ (∀ k, (bs.getD k ByteArray.empty).size ≤ 100000) ∧ Below w.heap.size w w' := by
  have hem : ∀ k, ((List.replicate 256 ByteArray.empty).getD k ByteArray.empty).size ≤ 100000 := fun k => by
    rw [List.getD_eq_getElem?_getD, List.getElem?_replicate]
    split <;> decide
  refine (commit_walk g 0 _ _ 1000 v cs ls w h.at0 hc hz).mono ?_
  rintro e w' ⟨b, (⟨_, rfl⟩ | ⟨_, h1, _⟩ | ⟨hr, _, rfl, h1⟩)⟩
  · exact ⟨g, 1, _, _, rfl, h.after b, hem, b⟩
  · have := cntTo_le (overT (List.replicate 256 false) (putTo (fun _ => none) cs ls cs.length)) 256
    omega
  · exact ⟨_, 0, _, _, rfl, h1, over_small hem (PGood.none.putTo cs ls (fun i x hx => ⟨(rightC_keys hr hx).1, by
      obtain ⟨A, c, e, _⟩ := hc.bods.2 i x hx
      simp only [Value.slice.injEq] at e
      rw [← e.2.1]
      exact (rightC_keys hr hx).2⟩) cs.length (Nat.le_refl _)), b⟩
end Go.Proofs.Ytppodbijdhcclaa


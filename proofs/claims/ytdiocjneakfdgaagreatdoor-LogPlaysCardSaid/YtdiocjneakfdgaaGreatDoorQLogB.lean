/- Several texts of the proof, joined: what each has is said at its head. -/
import Derived.RangeFuncNested
import Derived.Test.YtdiocjneakfdgaaGreatDoorQNandB
import Derived.RangeFuncBound
import Derived.RangeFuncCalls
import Derived.RangeFuncLeaves
import Derived.Shelf.Abstract
import Derived.Shelf.RegionOpen
import Derived.WalkKit
import Derived.OwnWalkIn
import Derived.TacticsInMore
import Derived.LoopNIn
import Derived.LoopIn
import Derived.Test.YtdiocjneakfdgaaGreatDoorQLogA
import Derived.Test.YtdiocjneakfdgaaGreatDoorQSortB
import Derived.Laws.OwnMore
import Derived.Test.YtdiocjneakfdgaaGreatDoorQBbtRead
/- What a round of a range over a function keeps: all cells but those of some blocks. No condition. -/
namespace Go.Proofs.YtdiocjneakfdgaaGreatDoor
open Go.RowKit
/-- cells lie as they lay, but in the blocks of T -/
def KC (T : Nat → Prop) (W W' : World) : Prop := W.heap.size ≤ W'.heap.size ∧ ∀ (k : Nat) (o : Obj), W.heap[k]? = some o → o.isCells = true → ¬ T k → W'.heap[k]? = some o
theorem KC.trans {T : Nat → Prop} {A B C : World} (h : KC T A B) (k : KC T B C) : KC T A C := ⟨Nat.le_trans h.1 k.1, fun i o h1 h2 h3 => k.2 i o (h.2 i o h1 h2 h3) h2 h3⟩
theorem KC.putObj {T : Nat → Prop} {w : World} (W : World) (l : Nat) (o o' : Obj) (_ : w.heap.size ≤ l) (h : W.heap[l]? = some o) (hc : o.isCells = false) (_ : o.isWalk = false) : KC T W (W.putObj l o') :=
  ⟨by simp, fun k x hk hx _ => by
    by_cases e : k = l
    · subst e; rw [h] at hk; cases hk; rw [hc] at hx; cases hx
    · exact (World.putObj_heap_other e).trans hk⟩
theorem KC.of_chg {T : Nat → Prop} {W W' : World} (h : Chg W W' T) : KC T W W' := ⟨h.size, fun k _ hk _ hT => (h.block k (Array.getElem?_eq_some_iff.1 hk).1 hT).trans hk⟩
theorem grown_of_below {W W' : World} (h : Below W.heap.size W W') : W.grownBy W' none := ⟨h.os, h.tape, h.output, h.size, fun k hk _ => h.block k hk⟩
end Go.Proofs.YtdiocjneakfdgaaGreatDoor

/- A range over a bound method that gives the elements of a known list, in a body that always goes on. Condition: the body keeps what is no cells. -/
namespace Go.Proofs.YtdiocjneakfdgaaGreatDoor
open Go.RowKit
/-- the elements of os come in their order; Kp is what a round keeps -/
def GivesM {α : Type} (P : Program) (gf : Nat) (fs : Array Value) (enc : α → Value) (os : List α) (Kp : World → World → Prop) (m : Nat) (w : World) : Prop :=
  ∀ (l : Nat) (J : Nat → World → Prop) (W : World), Below w.heap.size w W → (∀ k A B, J k A → A.grownBy B none → J k B) →
    (∀ k x A, os[k]? = some x → J k A → YieldAt Fence.wide (m - 1) P l #[enc x] A fun e B => e = .returned (.bool true) ∧ J (k + 1) B ∧ Kp A B) →
    J 0 W → CallsIn Fence.wide m P gf (fs ++ #[.func (.yield l) #[] #[]]) W fun e B => (∃ v, e = .returned v) ∧ J os.length B
/-- a round has gone on -/
def bpost (Kp : World → World → Prop) (I : Nat → World → Prop) (k : Nat) (W : World) : Exit → Act → World → Prop
  | .normal, _, W' => KeepsOthers W W' ∧ Kp W W' ∧ I (k + 1) W'
  | _, _, _ => False
theorem wpIn_range_bound {α : Type} {P : Program} {g : Operand} {ps : Array Tmp} {assign body : Code} {Q : Exit → Act → World → Prop} {a : Act} {w : World} {n : Nat} (h1 : 1 ≤ n) {gf : Nat} {fs : Array Value}
    (hg : a.eval g = .func (.func gf) fs #[]) (eg : ∀ args w, (callFunc gf args).run P w = .ok (.enter gf args) w) {enc : α → Value} {os : List α} {Kp : World → World → Prop} (hseq : GivesM P gf fs enc os Kp (n - 1) w)
    (hKt : ∀ {A B C : World}, Kp A B → Kp B C → Kp A C) (hKb : ∀ (W : World) (l : Nat) (o o' : Obj), w.heap.size ≤ l → W.heap[l]? = some o → o.isCells = false → o.isWalk = false → Kp W (W.putObj l o')) (hps : ps.size = 1)
    (I : Nat → World → Prop) (hI : OwnFrom w.heap.size I) (h0 : I 0 w) (a₁ : α → Act)
    (hassign : ∀ (l : Nat) (x : α) (W : World) (K : Act → World → Prop), K (a₁ x) W → assign.wpIn (Fence.wide.inRound l) (n - 1 - 1) P (Exit.then K (fun _ _ _ => False)) { tmps := (ps.zip #[enc x]).foldl (fun t (p, v) => t.setIfInBounds p v) a.tmps, defers := [] } W)
    (hbody : ∀ (l k : Nat) (x : α) (W : World), os[k]? = some x → I k W → body.wpIn (Fence.wide.inRound l) (n - 1 - 1) P (bpost Kp I k W) (a₁ x) W)
    (hdone : ∀ (D : Nat) (W : World), w.heap.size ≤ D → I os.length W → W.heap[D]? = some (.deferred (some [])) → Q .normal { a with defers := { target := .collected D, args := #[] } :: a.defers } W) :
    (Code.rangeFunc g ps assign body).wpIn Fence.wide n P Q a w := by
  refine wpIn_rangeFunc ?_
  intro fn hfn
  rw [show Fence.wide.round = none from rfl]
  obtain ⟨B, hB⟩ : ∃ B, B = w.heap.size := ⟨_, rfl⟩
  obtain ⟨rc, hrc⟩ : ∃ rc : LoopState → Loop, rc = fun st => ⟨st, none, fn, a.tmps, ps, assign, body, B⟩ := ⟨_, rfl⟩
  obtain ⟨V, hV⟩ : ∃ V, V = (w.alloc (.deferred (some []))).alloc (.loop (rc .ready)) := ⟨_, rfl⟩
  have vl : V.heap[B + 1]? = some (.loop (rc .ready)) := by
    have := World.alloc_heap_new (w.alloc (.deferred (some []))) (.loop (rc .ready))
    rw [World.size_alloc, ← hB] at this
    rw [hV]; exact this
  have vk : V.heap[B]? = some (.deferred (some [])) := by
    rw [hV, hB]
    exact (Below.heap_alloc _ _ _ (by simp)).trans (World.alloc_heap_new w _)
  have vb : Below w.heap.size w V := by
    rw [hV]
    exact ((Below.refl _ w).alloc (Nat.le_refl _) _).alloc (by simp) _
  have vi : I 0 V := by rw [hV]; exact hI.alloc _ (hI.alloc _ h0)
  -- what is kept from round to round
  have key := hseq (B + 1) (fun k A => I k A ∧ A.heap[B + 1]? = some (.loop (rc .ready)) ∧ A.heap[B]? = some (.deferred (some []))) V vb
    (fun k A C hk hg' => ⟨hI k A C none hk.1 hg' (fun r e => by cases e), (hg'.block _ (Array.getElem?_eq_some_iff.1 hk.2.1).1 (by simp)).trans hk.2.1, (hg'.block _ (Array.getElem?_eq_some_iff.1 hk.2.2).1 (by simp)).trans hk.2.2⟩)
    (fun k x A hx hk => by
      obtain ⟨ik, lk, dk⟩ := hk
      have hlt := (Array.getElem?_eq_some_iff.1 lk).1
      have hy := run_yield (P := P) (args := #[enc x]) lk (by rw [hrc]; exact hps.symm)
      rw [hrc] at hy
      refine ⟨fn, _, assign, body, hy, roundIn_of_wpIn hfn (hassign _ x A _ ⟨_, run_beginRound lk (by rw [hrc]), ?_⟩)⟩
      obtain ⟨A2, hA2⟩ : ∃ A2, A2 = A.putObj (B + 1) (.loop { rc .ready with state := .busy }) := ⟨_, rfl⟩
      rw [← hA2]
      have l2 : A2.heap[B + 1]? = some (.loop { rc .ready with state := .busy }) := by rw [hA2]; exact World.putObj_heap_same hlt
      have d2 : A2.heap[B]? = some (.deferred (some [])) := by rw [hA2]; exact (World.putObj_heap_other (by omega)).trans dk
      have k2 : Kp A A2 := by rw [hA2]; exact hKb _ _ _ _ (by omega) lk rfl rfl
      have i2 : I k A2 := by rw [hA2]; exact hI.putObj _ ik (by omega) lk rfl
      refine wpIn_mono (hbody (B + 1) k x A2 hx i2) fun e a3 W3 hp => ?_
      cases e <;> first | exact hp.elim | skip
      obtain ⟨k3, p3, i3⟩ := hp
      have l3 := k3.same _ _ l2 rfl
      have d3 := k3.same _ _ d2 rfl
      have hr := run_endRound (P := P) none l3
      refine ⟨_, _, hr, rfl, ⟨hI.putObj _ i3 (by omega) l3 rfl, ?_, (World.putObj_heap_other (by omega)).trans d3⟩, hKt (hKt k2 p3) (hKb _ _ _ _ (by omega) l3 rfl rfl)⟩
      have := World.putObj_heap_same (o := .loop { rc .ready with state := .busy, pending := none } ) (Array.getElem?_eq_some_iff.1 l3).1
      refine (World.putObj_heap_same (Array.getElem?_eq_some_iff.1 l3).1).trans ?_
      rw [hrc]
      rfl)
    ⟨vi, vl, vk⟩
  refine ⟨B + 1, [{ target := .collected B, args := #[] }], V, { target := .fn (.func gf) #[], args := fs ++ #[.func (.yield (B + 1)) #[] #[]] }, V, gf, fs ++ #[.func (.yield (B + 1)) #[] #[]], V, ?_, ?_, ?_, ?_, ?_, ?_⟩
  · rw [hV, hrc, hB]
    exact run_enterLoop_outer _ _ _ _ _
  · simp only [resolve, hg]
    simp [go_sem]
  · intro f' _; exact (trivial : True)
  · simp [invoke, go_sem, eg]
  · intro _; exact h1
  · refine CallsIn.mono key ?_
    rintro e W2 ⟨⟨v, rfl⟩, ik, lk, dk⟩
    have := run_endLoop (P := P) lk (by rw [hrc]; simp)
    rw [show (rc .ready).pending = none by rw [hrc]] at this
    exact ⟨none, _, this, hdone B _ (Nat.le_of_eq hB.symm) (hI.putObj _ ik (by omega) lk rfl) ((World.putObj_heap_other (by omega)).trans dk)⟩
end Go.Proofs.YtdiocjneakfdgaaGreatDoor

/- A log's calls that only look at what is in memory: Free, isSegment, least; the order of two segments. Condition: the log is there. -/
namespace Go.Proofs.YtdiocjneakfdgaaGreatDoor
open Go.RowKit
section
variable {w : World} {g h d t : Nat} {a : At} {X : DS} {N K : Nat} {Bs : List LB} {num : Nat}
theorem Lg.n (l : Lg w g h d t a X N K Bs num) : 16 ≤ N ∧ N ≤ 40 := l.dk.n
set_option maxRecDepth 100000 in
set_option maxHeartbeats 8000000 in
theorem free_any (l : Lg w g h d t a X N K Bs num) :
    Calls Tryz.prog 13 #[.pointer (some ⟨g, 0, none⟩)] w fun e w' => e = .returned (.int .i64 ((freeTo Bs (N - 6) : Nat) : Int)) ∧ Below w.heap.size w w' := by
  have HL := Lib.hid l
  have hn := l.n
  obtain ⟨c0, c1, c2⟩ := l.cells
  obtain ⟨M, hM⟩ : ∃ M, M = N - 6 := ⟨_, rfl⟩
  have HM := Lib.hid hM
  rw [← hM] at c1 ⊢
  have hM40 : M ≤ 40 := by omega
  have HBL := Lib.hid (show Bs.length = M by rw [HL.out.len, hM])
  clear l c0 c2 hM hn
  go_enter Tryz.func13, Tryz.ntmps13
  go_wp2
  go_loopw [3, 5, 11] (fun vf _ vi wr => ∃ i : Nat, vi = .int .i64 (i : Int) ∧ i ≤ M ∧ vf = .int .i64 ((freeTo Bs i : Nat) : Int) ∧ Hid (Below w.heap.size w wr)) (fun _ _ vi _ => M - (intOf vi).toNat)
  case atStart => exact ⟨0, rfl, Nat.zero_le _, rfl, Lib.hid (Below.refl _ _)⟩
  case round =>
    obtain ⟨i, rfl, hi, rfl, hb⟩ := hrel
    by_cases hlt : i < M
    · obtain ⟨b, hB⟩ : ∃ b, Bs[i]? = some b := ⟨_, List.getElem?_eq_getElem (by rw [HBL.out]; exact hlt)⟩
      have HB := Lib.hid hB
      have HX := Lib.hid (HL.out.after hb.out)
      have hfl := freeTo_le Bs i
      have HF := Lib.hid (show freeTo Bs (i + 1) = freeTo Bs i + if b.seg = true then 0 else 1 by rw [← segAt_get hB]; rfl)
      obtain ⟨q, hq⟩ : ∃ q, q = freeTo Bs i := ⟨_, rfl⟩
      rw [← hq] at hfl HF ⊢
      clear hq hB
      obtain ⟨k0, k1, k2, k3, k4⟩ := HX.out.cell HB.out
      obtain ⟨bw, bc, bs, bn, bx, br⟩ := b
      cases bs with
      | true =>
        go_wp2
        go_roundw
        case rel => exact ⟨i + 1, by congr 1, by omega, by rw [HF.out]; rfl, Lib.hid ((hb.out.alloc hb.out.size _))⟩
        case measure => simp [intOf]; omega
      | false =>
        go_wp2
        go_roundw
        case rel => exact ⟨i + 1, by congr 1, by omega, by rw [HF.out]; rfl, Lib.hid ((hb.out.alloc hb.out.size _))⟩
        case measure => simp [intOf]; omega
    · obtain rfl : i = M := by omega
      go_wp2
      go_ret
      exact ⟨rfl, hb.out⟩
/-- is there such a segment? -/
def isSegM (Bs : List LB) (x : Int) : Bool := decide (0 ≤ x) && segAt Bs x.toNat
set_option maxRecDepth 100000 in
set_option maxHeartbeats 8000000 in
theorem isSegment_any (l : Lg w g h d t a X N K Bs num) (x : Int) :
    Calls Tryz.prog 25 #[.pointer (some ⟨g, 0, none⟩), .int .i64 x] w fun e w' => e = .returned (.bool (isSegM Bs x)) ∧ w = w' := by
  have HL := Lib.hid l
  have hn := l.n
  obtain ⟨c0, c1, c2⟩ := l.cells
  obtain ⟨M, hM⟩ : ∃ M, M = N - 6 := ⟨_, rfl⟩
  rw [← hM] at c1
  have hM40 : M ≤ 40 := by omega
  have HBL := Lib.hid (show Bs.length = M by rw [HL.out.len, hM])
  clear l c0 c2 hM hn
  by_cases h0 : 0 ≤ x
  · obtain ⟨i, rfl⟩ : ∃ i : Nat, x = (i : Int) := ⟨x.toNat, by omega⟩
    have HR := Lib.hid (show isSegM Bs (i : Int) = segAt Bs i by unfold isSegM; simp)
    by_cases hlt : i < M
    · obtain ⟨b, hB⟩ : ∃ b, Bs[i]? = some b := ⟨_, List.getElem?_eq_getElem (by rw [HBL.out]; exact hlt)⟩
      obtain ⟨k0, k1, k2, k3, k4⟩ := HL.out.cell hB
      have HS := Lib.hid (segAt_get hB)
      obtain ⟨bs, hbs⟩ : ∃ bs, bs = b.seg := ⟨_, rfl⟩
      rw [← hbs] at k2 HS
      clear k0 k1 k3 k4 hbs hB
      go_enter Tryz.func25, Tryz.ntmps25
      go_wp2
      go_ret
      exact ⟨by rw [HR.out, HS.out]; rfl, rfl⟩
    · have HS := Lib.hid (show segAt Bs i = false by
        cases e : segAt Bs i with
        | false => rfl
        | true => have := segAt_lt e; rw [HBL.out] at this; omega)
      go_enter Tryz.func25, Tryz.ntmps25
      go_wp2
      go_ret
      exact ⟨by rw [HR.out, HS.out]; rfl, rfl⟩
  · have HR := Lib.hid (show isSegM Bs x = false by unfold isSegM; simp; omega)
    go_enter Tryz.func25, Tryz.ntmps25
    go_wp2
    go_ret
    exact ⟨by rw [HR.out]; rfl, rfl⟩
theorem chgg_cell {w' : World} {T : Nat → Prop} (hc : Chg w w' T) {p : Addr} (hp : p.block < w.heap.size) (hT : ¬ T p.block) : w'.cell? p = w.cell? p := by
  unfold World.cell?
  rw [hc.block _ hp hT]
set_option maxRecDepth 100000 in
set_option maxHeartbeats 8000000 in
theorem order1_any (l : Lg w g h d t a X N K Bs num) (q : Nat) (hq : w.cell? ⟨q, 0, none⟩ = some (.pointer (some ⟨g, 0, none⟩))) (x y : Nat) (hx : x < N - 6) (hy : y < N - 6) :
    Calls Tryz.prog 47 #[.int .i64 (x : Int), .int .i64 (y : Int), .pointer (some ⟨q, 0, none⟩)] w fun e W' => e = .returned (.int .i64 (cmp3 (numAt Bs x : Int) (numAt Bs y : Int))) ∧ ∃ m, W' = w.drewN m := by
  have hn := l.n
  obtain ⟨c0, c1, c2⟩ := l.cells
  have hl := l.len
  obtain ⟨b, hB⟩ : ∃ b, Bs[x]? = some b := ⟨_, List.getElem?_eq_getElem (by omega)⟩
  obtain ⟨b', hB'⟩ : ∃ b', Bs[y]? = some b' := ⟨_, List.getElem?_eq_getElem (by omega)⟩
  obtain ⟨_, _, _, k3, _⟩ := l.cell hB
  obtain ⟨_, _, _, k3', _⟩ := l.cell hB'
  rw [numAt_get hB, numAt_get hB']
  obtain ⟨M, hM⟩ : ∃ M, M = N - 6 := ⟨_, rfl⟩
  rw [← hM] at c1 hx hy
  have hM40 : M ≤ 40 := by omega
  obtain ⟨u, hu⟩ : ∃ u, u = b.num := ⟨_, rfl⟩
  obtain ⟨v, hv⟩ : ∃ v, v = b'.num := ⟨_, rfl⟩
  rw [← hu] at k3 ⊢
  rw [← hv] at k3' ⊢
  have KC := fun w => compare_u64 (u : Int) (v : Int) w
  obtain ⟨r, hr⟩ : ∃ r, r = cmp3 (u : Int) (v : Int) := ⟨_, rfl⟩
  rw [← hr] at KC ⊢
  clear l c0 c2 hM hn hB hB' hu hv hr hl
  go_enter Tryz.func47, Tryz.ntmps47
  go_wp2
  go_quiet ((go_at_call 48; exact Calls.quiet_of_same ((KC _).mono (fun _ _ h => ⟨h.1, h.2.symm⟩))))
  go_wp2
  go_ret
  exact ⟨rfl, _, rfl⟩
theorem Lg.chg {w' : World} {T : Nat → Prop} (l : Lg w g h d t a X N K Bs num) (hc : Chg w w' T) (hT : ∀ k, a.log t d g h k ∨ k = 0 → ¬ T k) : Lg w' g h d t a X N K Bs num :=
  ⟨l.gb.chg hc (hT g (Or.inl (Or.inr (Or.inl rfl)))), l.hb.chg hc (hT h (Or.inl (Or.inr (Or.inr rfl)))), l.dk.chg hc (fun k hk => hT k (hk.imp Or.inl id)), l.len, l.gh, l.gd, l.hd, l.gt, l.ht⟩
theorem kcmp_any (l : Lg w g h d t a X N K Bs num) (q gl : Nat) (hq : w.cell? ⟨q, 0, none⟩ = some (.pointer (some ⟨g, 0, none⟩))) (hql : q < w.heap.size) (hqg : q ≠ gl) (hg : ∀ k, a.log t d g h k ∨ k = 0 → k ≠ gl) : KCmp q (numAt Bs) (N - 6) gl w := fun _ hW x y hx hy =>
  order1_any (l.chg hW hg) q ((chgg_cell hW hql hqg).trans hq) x y hx hy
end
end Go.Proofs.YtdiocjneakfdgaaGreatDoor

/- The log's order, given element by element. Condition: the log is there; its segments' numbers differ. -/
namespace Go.Proofs.YtdiocjneakfdgaaGreatDoor
open Go.RowKit Go.Shelf
attribute [local go_sem] Oper.semAt_some
theorem intTyL : OneCell Tryz.prog 23 3 (.int .i64 0) 8 := OneCell.mk' Tryz.underlying23 (by kernel_rfl) (by decide)
theorem nv_append (a b : List Nat) : nv (a ++ b) = nv a ++ nv b := by simp [nv]
theorem nv_one (l : List Nat) : ∀ u ∈ nv l, u.oneCell' = true := by
  intro u hu
  obtain ⟨_, _, rfl⟩ := List.mem_map.1 hu
  rfl
/-- a row of the call's own, as a block -/
theorem own_ir {w : World} {base n c : Nat} {A : Option Addr} {L : List Nat} (h : w.ownsRow base 3 1 (.slice A n c) n (nv L)) : (∃ gl ex, A = some ⟨gl, 0, none⟩ ∧ base ≤ gl ∧ IR w gl L ex) ∨ (A = none ∧ n = 0 ∧ c = 0) := by
  rcases h.2 with ⟨hv, _⟩ | ⟨g', cap, cur, hv, hg, hb, _, _, hcs, ht⟩
  · cases hv
    exact .inr ⟨rfl, rfl, rfl⟩
  · cases hv
    refine .inl ⟨g', cur.toList.drop n, rfl, hg, ?_⟩
    unfold IR Blk
    rw [← ht, Nat.mul_one, List.take_append_drop]
    simpa using hb
theorem sortStable_nil (fv : Value) (w : World) : Calls Tryz.prog 46 #[.slice none 0 0, fv] w fun e w' => e = .returned (.tuple #[]) ∧ w = w' := by
  have K1 : Calls Tryz.prog 97 #[.slice none 0 0, .int .i64 0, .int .i64 0, fv] w fun e w' => e = .returned (.tuple #[]) ∧ w = w' := by
    go_enter Tryz.func97, Tryz.ntmps97
    go_wp2
    go_loopw [8, 9] (fun vi _ wr => vi = .int .i64 1 ∧ w = wr) (fun _ _ _ => 0)
    case atStart => exact ⟨rfl, rfl⟩
    case round =>
      obtain ⟨rfl, rfl⟩ := hrel
      go_wp2
      go_end0
      exact ⟨rfl, rfl⟩
  have K2 : Calls Tryz.prog 70 #[.slice none 0 0, .int .i64 0, fv] w fun e w' => e = .returned (.tuple #[]) ∧ w = w' := by
    go_enter Tryz.func70, Tryz.ntmps70
    go_wp2
    go_loopw [7, 8] (fun va vb wr => va = .int .i64 0 ∧ vb = .int .i64 20 ∧ w = wr) (fun _ _ _ => 0)
    case atStart => exact ⟨rfl, rfl, rfl⟩
    case round =>
      obtain ⟨rfl, rfl, rfl⟩ := hrel
      go_wp2_with (go_at_call 97; ((with_reducible refine K1.mono ?_); rintro e w2 ⟨rfl, rfl⟩))
      go_loopw [6, 7, 8, 9] (fun vs _ _ _ wr => vs = .int .i64 20 ∧ w = wr) (fun _ _ _ _ _ => 0)
      case atStart => exact ⟨rfl, rfl⟩
      case round =>
        obtain ⟨rfl, rfl⟩ := hrel
        go_wp2
        go_end0
        exact ⟨rfl, rfl⟩
  go_enter Tryz.func46, Tryz.ntmps46
  go_wp2_with (go_at_call 70; ((with_reducible refine K2.mono ?_); rintro e w2 ⟨rfl, rfl⟩))
  go_end0
  exact ⟨rfl, rfl⟩
section
variable {w : World} {g h d t : Nat} {a : At} {X : DS} {N K : Nat} {Bs : List LB} {num : Nat} {os : List Nat}
set_option maxRecDepth 100000 in
set_option maxHeartbeats 8000000 in
theorem inOrder_gives (l : Lg w g h d t a X N K Bs num) (ord : IsOrder Bs os) {Kp : World → World → Prop} (hT : ∀ A B k cs, Kp A B → w.heap.size ≤ k → Blk A k 3 cs → Blk B k 3 cs) (m : Nat) (hm : 1 ≤ m) :
    GivesM Tryz.prog 23 #[.pointer (some ⟨g, 0, none⟩)] (fun x : Nat => .int .i64 (x : Int)) os Kp m w := by
  intro ll J W hW hJ hY h0
  refine callsIn_wide.2 ?_
  have l1 := l.after hW
  have hn := l.n
  have b1 := Lib.hid ((Below.refl W.heap.size W).alloc (Nat.le_refl _) (.cells #[.pointer (some ⟨g, 0, none⟩)] 26))
  have L1 := Lib.hid (l1.after b1.out)
  obtain ⟨c0, c1, c2⟩ := L1.out.cells
  have B1 : Blk (W.alloc (.cells #[.pointer (some ⟨g, 0, none⟩)] 26)) W.heap.size 26 [.pointer (some ⟨g, 0, none⟩)] := heap_alloc_new W _
  have cq := B1.cell 0
  simp only [List.getElem?_cons_zero] at cq
  have HQL := Lib.hid B1.lt
  obtain ⟨M, hM⟩ : ∃ M, N - 6 = M := ⟨_, rfl⟩
  have HM := Lib.hid hM
  have HBL := Lib.hid (show Bs.length = M by rw [l.len, hM])
  rw [hM] at c1
  have hM34 : M ≤ 34 := by omega
  have HORD := Lib.hid ord
  have HT := Lib.hid hT
  have HJ := Lib.hid hJ
  have HY := Lib.hid hY
  have H0 := Lib.hid h0
  have HW := Lib.hid hW
  clear l l1 c0 c2 hn hM B1 ord hT hJ hY h0 hW
  show Calls Tryz.prog 23 #[.pointer (some ⟨g, 0, none⟩), .func (.yield ll) #[] #[]] W _
  go_enter Tryz.func23, Tryz.ntmps23
  go_wp2
  obtain ⟨V, hV⟩ : ∃ V, V = W.alloc (.cells #[.pointer (some ⟨g, 0, none⟩)] 26) := ⟨_, rfl⟩
  obtain ⟨q, hq⟩ : ∃ q, q = W.heap.size := ⟨_, rfl⟩
  rw [← hV] at b1 L1 cq HQL c1 ⊢
  rw [← hq] at cq HQL ⊢
  have HQ := Lib.hid hq
  clear hV hq
  go_loopw [4, 5, 6, 14] (fun vl _ _ vi wr => ∃ i : Nat, i ≤ M ∧ vi = .int .i64 (i : Int) ∧ ∃ A n c, vl = .slice A n c ∧ Hid (n = (segsTo Bs i).length) ∧ Hid (wr.ownsRow V.heap.size 3 1 (.slice A n c) n (nv (segsTo Bs i))) ∧ Hid (Below V.heap.size V wr)) (fun _ _ _ vi _ => M - (intOf vi).toNat)
  case atStart => exact ⟨0, Nat.zero_le _, rfl, none, 0, 0, rfl, Lib.hid rfl, Lib.hid (World.ownsRow_nil V V.heap.size 3 1), Lib.hid (Below.refl _ _)⟩
  case round =>
    obtain ⟨W0, hW0⟩ : ∃ W0, W0 = wr := ⟨_, rfl⟩
    subst hW0
    obtain ⟨i, hi, rfl, A, n, c, rfl, hn, hO, hb⟩ := hrel
    have hsl := segsTo_le Bs i
    by_cases hlt : i < M
    · obtain ⟨b, hB⟩ : ∃ b, Bs[i]? = some b := ⟨_, List.getElem?_eq_getElem (by rw [HBL.out]; exact hlt)⟩
      have HB := Lib.hid hB
      have HX := Lib.hid (L1.out.after hb.out)
      obtain ⟨k0, k1, k2, k3, k4⟩ := HX.out.cell HB.out
      have HS := Lib.hid (segsTo_succ Bs i)
      rw [segAt_get hB] at HS
      have hnk : n ≤ 100 := by rw [hn.out]; omega
      obtain ⟨bw, bc, bs, bn, bx, br⟩ := b
      cases bs with
      | true =>
        have HS := Lib.hid (show segsTo Bs (i + 1) = segsTo Bs i ++ [i] by rw [HS.out]; rfl)
        obtain ⟨ob, hob⟩ : ∃ ob : Obj, ob = .cells #[.int .u64 (bw : Int), .bool bc, .bool true, .int .u64 (bn : Int), .int .i64 (bx : Int)] 80 := ⟨_, rfl⟩
        have O1 := Lib.hid ((hO.out.alloc ob).alloc (.cells #[.int .i64 (i : Int)] 3))
        have b3 := Lib.hid ((hb.out.alloc hb.out.size ob).alloc (by rw [World.size_alloc]; exact Nat.le_succ_of_le hb.out.size) (.cells #[.int .i64 (i : Int)] 3))
        have hrow := Lib.hid (show Row ((W0.alloc ob).alloc (.cells #[.int .i64 (i : Int)] 3)) (W0.heap.size + 2) (some ⟨W0.heap.size + 1, 0, none⟩) (nv [i]) from Row.new (W0.alloc ob) #[.int .i64 (i : Int)] 3 (0, 0) (W0.heap.size + 1) (by rw [World.size_alloc]) (by omega))
        rw [hob] at O1 b3 hrow
        clear HB hB hob
        go_wp2_with (at_builtin; (refine wpl_append_vals intTyL rfl (.tmp 21) (.tmp 23) rfl n rfl O1.out (W0.heap.size + 2) _ _ (nv [i]) 1 rfl rfl hrow.out (nv_one _) (by omega) (by simp only [maxLen]; omega) b3.out.size (n + 1) rfl ?_); intro A4 c4 w4 O4 g4 e4; have Q4 := Lib.hid O4; have T4 := Lib.hid (b3.out.grown g4 b3.out.size (fun q e => (O1.out.lt q e).1)); clear O4 g4 e4)
        go_roundw
        case rel => exact ⟨i + 1, by omega, by go_num, A4, n + 1, c4, rfl, Lib.hid (by rw [HS.out, List.length_append, hn.out]; rfl), Lib.hid (by rw [HS.out, nv_append]; exact Q4.out), T4⟩
        case measure => simp [intOf]; omega
      | false =>
        have HS := Lib.hid (show segsTo Bs (i + 1) = segsTo Bs i by rw [HS.out]; exact List.append_nil _)
        go_wp2
        go_roundw
        case rel => exact ⟨i + 1, by omega, by go_num, A, n, c, rfl, Lib.hid (by rw [HS.out]; exact hn.out), Lib.hid (by rw [HS.out]; exact hO.out.alloc _), Lib.hid (hb.out.alloc hb.out.size _)⟩
        case measure => simp [intOf]; omega
    · obtain rfl : i = M := by omega
      obtain ⟨L, hL⟩ : ∃ L, L = segsTo Bs i := ⟨_, rfl⟩
      rw [← hL] at hn hO hsl
      have HLP := Lib.hid (show L.Perm (segsTo Bs Bs.length) by rw [hL, HBL.out])
      clear hL
      have hnL := hn.out
      subst hnL
      rcases own_ir hO.out with ⟨gl, ex, rfl, hgl, hir⟩ | ⟨rfl, hn0, rfl⟩
      · have HI := Lib.hid hir
        have HGL := Lib.hid hgl
        have hlt1 : W0.heap.size ≤ W0.heap.size := Nat.le_refl _
        have hs1 := b1.out.size
        have hs2 := hb.out.size
        have hs3 := HW.out.size
        have LW := Lib.hid (L1.out.after hb.out)
        have KC := Lib.hid (kcmp_any LW.out q gl ((hb.out.cell (p := ⟨q, 0, none⟩) HQL.out).trans cq) (by have := HQL.out; omega) (by have := HQL.out; omega) (fun k hk e => by
          subst e
          rcases hk with hk | hk
          · have := L1.out.lt _ hk; omega
          · have := L1.out.dk.tab.lt; rw [← hk] at this; omega))
        have KS := Lib.hid (sortStable_any gl c L.length q (N - 6) (numAt Bs) L ex W0 HI.out rfl (by omega) (nk_of_nodup (HORD.out.keys HLP.out)) (fun x hx => by have := segs_lt HLP.out x hx; rw [LW.out.len] at this; exact this) KC.out)
        clear hir hgl KC hO hlt1
        go_wp2_with (go_at_call 46; ((with_reducible refine KS.out.mono ?_); rintro e w6 ⟨rfl, M', q1, q2, q3, q4⟩; have QI := Lib.hid q1; have QC := Lib.hid q2; have QP := Lib.hid q3; have QS := Lib.hid q4; clear q1 q2 q3 q4 KS))
        have EO : M' = os := sort_order HORD.out (QP.out.trans HLP.out) (by rw [QP.out.length_eq]; exact QS.out)
        subst EO
        have HLen := Lib.hid QP.out.length_eq
        have HB6 := Lib.hid (show Below W.heap.size W w6 from b1.out.trans ((hb.out.trans (QC.out.below (B := V.heap.size) (fun k e => by subst e; exact HGL.out) hs2)).mono hs1))
        have J6 := Lib.hid (HJ.out 0 _ _ H0.out (grown_of_below HB6.out))
        have HTg := Lib.hid (show w.heap.size ≤ gl by have := HGL.out; omega)
        have hL40 : L.length ≤ 34 := by omega
        refine (wpIn_wide (n := m)).1 ?_
        gi_loopw [8, 31] (fun _ vi wr => ∃ k : Nat, k ≤ L.length ∧ vi = .int .i64 (k : Int) ∧ Hid (J k wr) ∧ Hid (IR wr gl M' ex)) (fun _ vi _ => L.length - (intOf vi).toNat)
        case atStart => exact ⟨0, Nat.zero_le _, rfl, J6, QI⟩
        case round =>
          obtain ⟨k, hk, rfl, JK, RK⟩ := hrel
          by_cases hlt : k < L.length
          · have ck := RK.out.cell (x := k) (by rw [HLen.out]; exact hlt)
            obtain ⟨x, hx⟩ : ∃ x, M'[k]? = some x := ⟨_, List.getElem?_eq_getElem (by rw [HLen.out]; exact hlt)⟩
            rw [List.getD_eq_getElem?_getD, hx, Option.getD_some] at ck
            obtain ⟨fn, tmps, assign, body, hy, hR⟩ := HY.out k x wr hx JK.out
            gi_wp2
            refine hR.mono ?_
            rintro e w7 ⟨rfl, j7, k7⟩
            have J7 := Lib.hid j7
            have K7 := Lib.hid k7
            clear hy hR j7 k7
            gi_wp2
            go_roundw
            case rel => exact ⟨k + 1, by omega, by go_num, J7, Lib.hid (HT.out _ _ gl _ K7.out HTg.out RK.out)⟩
            case measure => simp [intOf]; omega
          · obtain rfl : k = L.length := by omega
            gi_wp2
            go_end0
            exact ⟨⟨_, rfl⟩, by rw [HLen.out]; exact JK.out⟩
      · obtain rfl : L = [] := List.eq_nil_of_length_eq_zero hn0
        have KS := Lib.hid (sortStable_nil (.func (.func 47) #[] #[.pointer (some ⟨q, 0, none⟩)]) W0)
        have EO : [] = os := sort_order HORD.out HLP.out (fun i j p1 p2 p3 => absurd p3 (Nat.not_lt_zero _))
        have J6 := Lib.hid (HJ.out 0 _ _ H0.out (grown_of_below (b1.out.trans (hb.out.mono b1.out.size))))
        subst EO
        clear hO HLP
        simp only [List.length_nil] at hn0 hsl ⊢
        go_wp2_with (go_at_call 46; ((with_reducible refine KS.out.mono ?_); rintro e w6 ⟨rfl, rfl⟩; clear KS))
        refine (wpIn_wide (n := m)).1 ?_
        gi_loopw [8, 31] (fun _ vi wr => vi = .int .i64 0 ∧ Hid (J 0 wr)) (fun _ _ _ => 0)
        case atStart => exact ⟨rfl, J6⟩
        case round =>
          obtain ⟨rfl, JK⟩ := hrel
          gi_wp2
          go_end0
          exact ⟨⟨_, rfl⟩, JK.out⟩
end
end Go.Proofs.YtdiocjneakfdgaaGreatDoor

/- The log's last segment. Condition: the log is there; its segments' numbers differ. -/
namespace Go.Proofs.YtdiocjneakfdgaaGreatDoor
open Go.RowKit Go.Shelf
attribute [local go_sem] Oper.semAt_some
section
variable {w : World} {g h d t : Nat} {a : At} {X : DS} {N K : Nat} {Bs : List LB} {num : Nat} {os : List Nat}
theorem Blk.own {β : Type} (B : Nat) {b : Nat} {ty : TypeId} (f : β → List Value) : OwnFrom B (fun s W => Blk W b ty (f s)) := fun s W W' row hs hg hr => by
  refine (hg.block b hs.lt (fun e => ?_)).trans hs
  obtain ⟨_, o, ho, hc⟩ := hr b e.symm
  rw [show W.heap[b]? = _ from hs] at ho
  cases ho
  cases hc
theorem below_drewN {B : Nat} {w : World} : ∀ (n : Nat) (v : World), Below B w v → Below B w (v.drewN n)
  | 0, _, h => h
  | n + 1, v, h => by first | exact below_drewN n _ h.drew | exact (below_drewN n v h).drew
set_option maxRecDepth 100000 in
set_option maxHeartbeats 8000000 in
theorem last_any (l : Lg w g h d t a X N K Bs num) (ord : IsOrder Bs os) :
    Calls Tryz.prog 38 #[.pointer (some ⟨g, 0, none⟩)] w fun e w' => e = .returned (.tuple #[.int .i64 ((os.getLast?.getD 0 : Nat) : Int), .bool os.getLast?.isSome]) ∧ Below w.heap.size w w' := by
  refine (callsIn_wide (n := 4)).1 (callsIn_of_wp_marks Tryz.func38 rfl trivial (wpIn_wide.2 ?_))
  simp only [Tryz.ntmps38, List.size_toArray, List.length_cons, List.length_nil, Nat.reduceAdd, Nat.reduceSub, Array.replicate_succ, Array.replicate_zero, List.push_toArray, List.append_toArray, List.nil_append, List.cons_append]
  have b1 := Lib.hid ((Below.refl w.heap.size w).alloc (Nat.le_refl _) (.cells #[.int .i64 0] 3))
  have b2 := Lib.hid (b1.out.alloc b1.out.size (.cells #[.bool false] 4))
  have B0 : Hid (Blk ((w.alloc (.cells #[.int .i64 0] 3)).alloc (.cells #[.bool false] 4)) w.heap.size 3 [.int .i64 0]) := Lib.hid ((show Blk (w.alloc (.cells #[.int .i64 0] 3)) w.heap.size 3 [.int .i64 0] from heap_alloc_new w _).alloc _)
  have B1 : Hid (Blk ((w.alloc (.cells #[.int .i64 0] 3)).alloc (.cells #[.bool false] 4)) (w.heap.size + 1) 4 [.bool false]) := Lib.hid (by have := heap_alloc_new (w.alloc (.cells #[.int .i64 0] 3)) (.cells #[.bool false] 4); rw [World.size_alloc] at this; exact this)
  have L2 := Lib.hid (l.after b2.out)
  have HORD := Lib.hid ord
  clear l ord
  go_wp2
  obtain ⟨V, hV⟩ : ∃ V, (w.alloc (.cells #[.int .i64 0] 3)).alloc (.cells #[.bool false] 4) = V := ⟨_, rfl⟩
  rw [hV] at b2 B0 B1 L2 ⊢
  obtain ⟨x0, hx0⟩ : ∃ x0, w.heap.size = x0 := ⟨_, rfl⟩
  rw [hx0] at B0 B1 ⊢
  have HX0 := Lib.hid hx0
  clear hV hx0 b1
  refine (wpIn_wide (n := 4)).1 ?_
  refine wpIn_range_bound (n := 4) (by omega) (gf := 23) (fs := #[.pointer (some ⟨g, 0, none⟩)]) (os := os) rfl (enters_of Tryz.func23 (by kernel_rfl) rfl)
    (inOrder_gives L2.out HORD.out (Kp := KC (fun k => k = x0 ∨ k = x0 + 1)) (fun A B k cs hk hk2 hb => hk.2 k _ hb rfl (fun e => by have := B1.out.lt; rcases e with rfl | rfl <;> omega)) 3 (by omega)) KC.trans (KC.putObj (w := V)) rfl
    (fun k W => Blk W x0 3 [.int .i64 (((os.take k).getLast?.getD 0 : Nat) : Int)] ∧ Blk W (x0 + 1) 4 [.bool (os.take k).getLast?.isSome] ∧ Below w.heap.size w W)
    (OwnFrom.and (Blk.own _ (fun k : Nat => [.int .i64 (((os.take k).getLast?.getD 0 : Nat) : Int)])) (OwnFrom.and (Blk.own _ (fun k : Nat => [.bool (os.take k).getLast?.isSome])) (ownFrom_below (Nat.le_refl _) b2.out.size)))
    ⟨by rw [List.take_zero]; exact B0.out, by rw [List.take_zero]; exact B1.out, b2.out⟩
    (fun x : Nat => { tmps := #[.pointer (some ⟨g, 0, none⟩), undef, .int .i64 0, .bool false, .pointer (some ⟨x0, 0, none⟩), .pointer (some ⟨x0 + 1, 0, none⟩), .int .i64 (x : Int), .pointer (some ⟨g, 0, none⟩), .func (.func 23) #[.pointer (some ⟨g, 0, none⟩)] #[], .int .i64 (x : Int), undef, undef, undef], defers := [] }) ?assign ?body ?done
  case assign =>
    intro l x W K hK
    gi_wp2
    exact hK
  case body =>
    rintro l k x W hx ⟨q1, q2, q3⟩
    have c0 := q1.cell 0
    have c1 := q2.cell 0
    have f0 := q1.free 0
    have f1 := q2.free 0
    simp only [List.getElem?_cons_zero] at c0 c1
    have HT := Lib.hid (take_snoc os hx)
    have HA := Lib.hid (q1.set 0 (.int .i64 (x : Int)))
    have HB := Lib.hid q2
    have HC := Lib.hid q3
    have hx' := Lib.hid hx
    clear q1 q2 q3 hx
    gi_wp2
    have e1 : (os.take (k + 1)).getLast? = some x := by rw [HT.out]; simp
    refine ⟨(KeepsOthers.setCell _ _ _).trans (KeepsOthers.setCell _ _ _), ?_, ?_, ?_, ?_⟩
    · exact KC.trans (KC.of_chg (Chg.of_grown (grown_setg _ _ _ _) (fun k e => by cases e; exact Or.inl rfl))) (KC.of_chg (Chg.of_grown (grown_setg _ _ _ _) (fun k e => by cases e; exact Or.inr rfl)))
    · rw [e1]
      exact HA.out.other _ _ (by simp)
    · rw [e1]
      exact (HB.out.other _ _ (by simp)).set 0 _
    · exact (HC.out.setCell (p := ⟨x0, 0, none⟩) (by have := HX0.out; simp; omega) _).setCell (p := ⟨x0 + 1, 0, none⟩) (by have := HX0.out; simp; omega) _
  case done =>
    rintro D W hD ⟨q1, q2, q3⟩ hK
    rw [List.take_length] at q1 q2
    have c0 := q1.cell 0
    have c1 := q2.cell 0
    simp only [List.getElem?_cons_zero] at c0 c1
    have H1 := Lib.hid q1
    have HB := Lib.hid q3
    have HK := Lib.hid hK
    have HD := Lib.hid (show w.heap.size ≤ D from Nat.le_trans b2.out.size hD)
    obtain ⟨r, hr⟩ : ∃ r, os.getLast?.getD 0 = r := ⟨_, rfl⟩
    obtain ⟨s, hs⟩ : ∃ s, os.getLast?.isSome = s := ⟨_, rfl⟩
    rw [hr] at c0
    rw [hs] at c1
    have HR := Lib.hid hr
    have HS := Lib.hid hs
    clear q1 q2 q3 hK hr hs
    go_wp2
    go_quiet (fail)
    go_wp2
    refine ⟨by simp, .inl ⟨_, _, rfl, run_takeDeferred (by exact HK.out), ?_⟩⟩
    exact ⟨_, results_tmp2 rfl _ _ _, by rw [HR.out, HS.out]; rfl, (below_drewN nq _ HB.out).trans (belowK_b (w := w) (Nat.le_refl _) _ D _ _ HD.out (by exact HK.out) rfl rfl)⟩
end
end Go.Proofs.YtdiocjneakfdgaaGreatDoor

/- A log's free block that is begun next; Room and Shut. Condition: the log is there. -/
namespace Go.Proofs.YtdiocjneakfdgaaGreatDoor
open Go.RowKit
section
variable {w : World} {g h d t : Nat} {a : At} {X : DS} {N K : Nat} {Bs : List LB} {num : Nat} {os : List Nat}
theorem leastTo_succ (Bs : List LB) (k : Nat) : leastTo Bs (k + 1) = if segAt Bs k = true then leastTo Bs k else match leastTo Bs k with
    | none => some k
    | some m => if wearAt Bs k < wearAt Bs m then some k else some m := rfl
set_option maxRecDepth 100000 in
set_option maxHeartbeats 8000000 in
theorem least_any (l : Lg w g h d t a X N K Bs num) :
    Calls Tryz.prog 62 #[.pointer (some ⟨g, 0, none⟩)] w fun e w' => e = .returned (.tuple #[.int .i64 (((leastTo Bs (N - 6)).getD 0 : Nat) : Int), .bool (leastTo Bs (N - 6)).isSome]) ∧ Below w.heap.size w w' := by
  have HL := Lib.hid l
  have hn := l.n
  obtain ⟨c0, c1, c2⟩ := l.cells
  obtain ⟨M, hM⟩ : ∃ M, N - 6 = M := ⟨_, rfl⟩
  rw [hM] at c1 ⊢
  have hM40 : M ≤ 40 := by omega
  have HBL := Lib.hid (show Bs.length = M by rw [HL.out.len, hM])
  have HC1 := Lib.hid (show ∀ w', Below w.heap.size w w' → w'.cell? ⟨g, 1, none⟩ = some (.slice (some ⟨h, 0, none⟩) M M) from fun w' hb => (hb.cell (p := ⟨g, 1, none⟩) l.gb.lt).trans c1)
  clear l c0 c2 hM hn
  go_enter Tryz.func62, Tryz.ntmps62
  go_wp2
  go_loopw [4, 5, 6, 7, 13] (fun vm vo _ _ vi wr => ∃ i : Nat, vi = .int .i64 (i : Int) ∧ i ≤ M ∧ Hid (Below w.heap.size w wr) ∧ ((vm = .int .i64 0 ∧ vo = .bool false ∧ Hid (leastTo Bs i = none)) ∨ ∃ m : Nat, m < i ∧ vm = .int .i64 (m : Int) ∧ vo = .bool true ∧ Hid (leastTo Bs i = some m))) (fun _ _ _ _ vi _ => M - (intOf vi).toNat)
  case atStart => exact ⟨0, rfl, Nat.zero_le _, Lib.hid (Below.refl _ _), Or.inl ⟨rfl, rfl, Lib.hid rfl⟩⟩
  case round =>
    obtain ⟨i, rfl, hi, hb, hrest⟩ := hrel
    by_cases hlt : i < M
    · obtain ⟨b, hB⟩ : ∃ b, Bs[i]? = some b := ⟨_, List.getElem?_eq_getElem (by rw [HBL.out]; exact hlt)⟩
      have HX := Lib.hid (HL.out.after hb.out)
      obtain ⟨k0, k1, k2, k3, k4⟩ := HX.out.cell hB
      have HS := Lib.hid (leastTo_succ Bs i)
      rw [segAt_get hB, wearAt_get hB] at HS
      have b1 := Lib.hid (hb.out.alloc hb.out.size (.cells #[.int .u64 (b.wear : Int), .bool b.clr, .bool b.seg, .int .u64 (b.num : Int), .int .i64 (b.next : Int)] 80))
      have cg := HC1.out _ b1.out
      obtain ⟨bw, bc, bs, bn, bx, br⟩ := b
      simp only at k0 k1 k2 k3 k4 HS b1 cg
      clear hB
      cases bs with
      | true =>
        rcases hrest with ⟨rfl, rfl, HN⟩ | ⟨m, hm, rfl, rfl, HN⟩
        · have HS2 := Lib.hid (show leastTo Bs (i + 1) = none by rw [HS.out, if_pos rfl, HN.out])
          clear HS
          go_wp2
          go_quiet (fail)
          go_wp2
          go_roundw
          case rel => exact ⟨i + 1, by go_num, by omega, Lib.hid (below_drewN _ _ b1.out), Or.inl ⟨rfl, rfl, HS2⟩⟩
          case measure => simp [intOf]; omega
        · have HS2 := Lib.hid (show leastTo Bs (i + 1) = some m by rw [HS.out, if_pos rfl, HN.out])
          clear HS
          go_wp2
          go_quiet (fail)
          go_wp2
          go_roundw
          case rel => exact ⟨i + 1, by go_num, by omega, Lib.hid (below_drewN _ _ b1.out), Or.inr ⟨m, by omega, rfl, rfl, HS2⟩⟩
          case measure => simp [intOf]; omega
      | false =>
        rcases hrest with ⟨rfl, rfl, HN⟩ | ⟨m, hm, rfl, rfl, HN⟩
        · have HS2 := Lib.hid (show leastTo Bs (i + 1) = some i by rw [HS.out, if_neg (by decide), HN.out])
          clear HS
          go_wp2
          go_quiet (fail)
          go_wp2
          go_roundw
          case rel => exact ⟨i + 1, by go_num, by omega, Lib.hid (below_drewN _ _ b1.out), Or.inr ⟨i, by omega, rfl, rfl, HS2⟩⟩
          case measure => simp [intOf]; omega
        · obtain ⟨bm, hBm⟩ : ∃ b, Bs[m]? = some b := ⟨_, List.getElem?_eq_getElem (by rw [HBL.out]; omega)⟩
          have HY := Lib.hid (HL.out.after b1.out)
          obtain ⟨y0, _, _, _, _⟩ := HY.out.cell hBm
          have HS := Lib.hid (show leastTo Bs (i + 1) = if bw < bm.wear then some i else some m by rw [HS.out, if_neg (by decide), HN.out]; simp only; rw [wearAt_get hBm])
          obtain ⟨mw, hmw⟩ : ∃ mw, bm.wear = mw := ⟨_, rfl⟩
          rw [hmw] at y0 HS
          clear hmw hBm
          have hmM : m < M := by omega
          by_cases hw : bw < mw
          · have HS2 := Lib.hid (show leastTo Bs (i + 1) = some i by rw [HS.out, if_pos hw])
            clear HS
            go_wp2
            go_quiet (fail)
            go_wp2
            go_roundw
            case rel => exact ⟨i + 1, by go_num, by omega, Lib.hid (below_drewN _ _ b1.out), Or.inr ⟨i, by omega, rfl, rfl, HS2⟩⟩
            case measure => simp [intOf]; omega
          · have HS2 := Lib.hid (show leastTo Bs (i + 1) = some m by rw [HS.out, if_neg hw])
            clear HS
            go_wp2
            go_quiet (fail)
            go_wp2
            go_roundw
            case rel => exact ⟨i + 1, by go_num, by omega, Lib.hid (below_drewN _ _ b1.out), Or.inr ⟨m, by omega, rfl, rfl, HS2⟩⟩
            case measure => simp [intOf]; omega
    · obtain rfl : i = M := by omega
      rcases hrest with ⟨rfl, rfl, HN⟩ | ⟨m, hm, rfl, rfl, HN⟩
      · go_wp2
        go_ret2
        exact ⟨by rw [HN.out]; rfl, hb.out⟩
      · go_wp2
        go_ret2
        exact ⟨by rw [HN.out]; rfl, hb.out⟩
end
end Go.Proofs.YtdiocjneakfdgaaGreatDoor

/- A log's Room and Shut. Condition: the log is in order. -/
namespace Go.Proofs.YtdiocjneakfdgaaGreatDoor
open Go.RowKit
section
variable {w : World} {g h d t : Nat} {a : At} {X : DS} {N K : Nat} {Bs : List LB} {num : Nat} {os : List Nat}
/-- one part of a block is stored -/
theorem Lg.set1 (l : Lg w g h d t a X N K Bs num) {i j : Nat} {b b' : LB} {v : Value} (hb : Bs[i]? = some b) (hv : (brow b).set j v = brow b') (hj : j < 5) : Lg (w.setCell ⟨h, i * 5 + j, none⟩ v) g h d t a X N K (Bs.set i b') num := by
  refine l.blocks ?_ (by rw [List.length_set]) (grown_setg _ _ _ _)
  have := l.hb.set (i * 5 + j) v
  rwa [lflat_set1 hb hv hj] at this
theorem Lg.free (l : Lg w g h d t a X N K Bs num) (k : Nat) : w.frozen? ⟨h, k, none⟩ = false := l.hb.free k
def LB.shut (b : LB) : LB := { b with next := 8 }
def shutS (Bs : List LB) (os : List Nat) : List LB := match os.getLast?.bind (fun x => Bs[x]?.map (fun b => (x, b))) with
  | none => Bs
  | some (x, b) => Bs.set x b.shut
theorem last_some {x : Nat} (o : LOk Bs os num) (h : os.getLast? = some x) : ∃ b, Bs[x]? = some b ∧ b.seg = true := by
  have hm := (o.ord.mem x).1 (List.mem_of_getLast? h)
  have hl := segAt_lt hm
  refine ⟨Bs[x], List.getElem?_eq_getElem hl, ?_⟩
  rw [← segAt_get (List.getElem?_eq_getElem hl)]
  exact hm
theorem LOk.next_le (o : LOk Bs os num) {x : Nat} {b : LB} (h : Bs[x]? = some b) (hs : b.seg = true) : 2 ≤ b.next ∧ b.next ≤ 8 := by
  have := o.ok b (get_mem h)
  have h1 := this.recs
  rcases this.len hs with q | q <;> omega
theorem roomOf_some {x : Nat} {b : LB} (h : os.getLast? = some x) (hb : Bs[x]? = some b) : roomOf Bs os = 8 - b.next := by
  unfold roomOf
  rw [h]
  show 8 - nextAt Bs x = _
  rw [nextAt_get hb]
set_option maxRecDepth 100000 in
set_option maxHeartbeats 8000000 in
theorem room_any8 (l : Lg w g h d t a X N K Bs num) (o : LOk Bs os num) :
    Calls Tryz.prog 17 #[.pointer (some ⟨g, 0, none⟩)] w fun e w' => e = .returned (.int .i64 ((roomOf Bs os : Nat) : Int)) ∧ Below w.heap.size w w' := by
  have KL := Lib.hid (last_any l o.ord)
  have HL := Lib.hid l
  have hn := l.n
  cases hx : os.getLast? with
  | none =>
    have HR := Lib.hid (show roomOf Bs os = 0 by unfold roomOf; rw [hx])
    rw [hx] at KL
    simp only [Option.getD_none, Option.isSome_none] at KL
    clear l o hx
    go_enter Tryz.func17, Tryz.ntmps17
    go_wp2_with (go_at_call 38; ((with_reducible refine KL.out.mono ?_); rintro e w2 ⟨rfl, b2⟩; have B2 := Lib.hid b2; clear b2 KL))
    go_ret
    exact ⟨by rw [HR.out]; rfl, B2.out⟩
  | some x =>
    obtain ⟨b, hb, hs⟩ := last_some o hx
    have HR := Lib.hid (roomOf_some hx hb)
    have HB := Lib.hid hb
    have hnx := o.next_le hb hs
    have hxl : x < N - 6 := by have := get_lt hb; rw [l.len] at this; exact this
    rw [hx] at KL
    simp only [Option.getD_some, Option.isSome_some] at KL
    have e8 : (8 : Int) - (b.next : Int) = ((8 - b.next : Nat) : Int) := by omega
    obtain ⟨M, hM⟩ : ∃ M, N - 6 = M := ⟨_, rfl⟩
    have HM := Lib.hid hM
    have hM40 : M ≤ 40 := by omega
    rw [hM] at hxl
    obtain ⟨r, hr⟩ : ∃ r, 8 - b.next = r := ⟨_, rfl⟩
    rw [hr] at HR e8
    clear l o hx hb hs hM hr
    go_enter Tryz.func17, Tryz.ntmps17
    go_wp2_with (go_at_call 38; ((with_reducible refine KL.out.mono ?_); rintro e w2 ⟨rfl, b2⟩; have B2 := Lib.hid b2; obtain ⟨q0, q1, q2⟩ := (HL.out.after b2).cells; obtain ⟨k0, k1, k2, k3, k4⟩ := (HL.out.after b2).cell HB.out; rw [HM.out] at q1; clear b2 KL q0 q2 k0 k1 k2 k3))
    go_ret
    exact ⟨by rw [HR.out]; rfl, B2.out⟩
end
end Go.Proofs.YtdiocjneakfdgaaGreatDoor

/- What a log reads in a page of its disk. Condition: the log is there. -/
namespace Go.Proofs.YtdiocjneakfdgaaGreatDoor
open Go.RowKit
section
variable {w : World} {g h d t : Nat} {a : At} {X : DS} {N K : Nat} {Bs : List LB} {num : Nat}
def tellsV (p : List UInt8) (k : UInt8) : Array Value := #[.int .u64 (((tellsM p k).getD 0 : Nat) : Int), .bool (tellsM p k).isSome, .int .i64 0]
set_option maxRecDepth 100000 in
set_option maxHeartbeats 8000000 in
theorem tells_any (l : Lg w g h d t a X N K Bs num) {x k : Nat} (hx : x < N - 6) (hk : k < 8) (kind : UInt8) :
    Calls Tryz.prog 45 #[.pointer (some ⟨g, 0, none⟩), .int .i64 (x : Int), .int .i64 (k : Int), .int .u8 ((kind.toNat : Nat) : Int)] w fun e w' => e = .returned (.tuple (tellsV ((X.blk x).pg.getD k []) kind)) ∧ Below w.heap.size w w' := by
  have z := zeroPage
  obtain ⟨c0, _, _⟩ := l.cells
  have KR := Lib.hid (l.dk.read hx hk)
  have HPL := Lib.hid (l.dk.page hx hk)
  obtain ⟨p, hp⟩ : ∃ p, (X.blk x).pg.getD k [] = p := ⟨_, rfl⟩
  rw [hp] at KR HPL ⊢
  have HTab := Lib.hid l.dk.tab
  have hbl := readM_short p
  obtain ⟨rk, hrk⟩ : ∃ rk, (FM.readM p).1 = rk := ⟨_, rfl⟩
  obtain ⟨rb, hrb⟩ : ∃ rb, (FM.readM p).2.1 = rb := ⟨_, rfl⟩
  obtain ⟨rm, hrm⟩ : ∃ rm, (FM.readM p).2.2.1 = rm := ⟨_, rfl⟩
  obtain ⟨re, hre⟩ : ∃ re, (FM.readM p).2.2.2 = re := ⟨_, rfl⟩
  have HT := Lib.hid (show tellsM p kind = if re = 0 ∧ rk = kind ∧ rb.length = 8 then some (le rb) else none by unfold tellsM; rw [hrk, hrb, hre])
  have KF := Lib.hid (fun (W : World) (ht : Tab W) => read_any p HPL.out W ht)
  rw [hrk, hrb, hrm, hre] at KF
  rw [hrb] at hbl
  have HBL := Lib.hid hbl
  clear l hp hrk hrb hrm hre hbl hx hk
  go_enter Tryz.func45, Tryz.ntmps45
  go_wp2_with (first
    | (go_at_call 52; ((with_reducible refine KR.out.mono ?_); rintro e w1 ⟨rfl, b1⟩; have B1 := Lib.hid b1; have N1 := PArr.new w1 pzeros_length; clear KR b1))
    | (with_reducible refine wpl_pstore (.tmp 11) (.tmp 24) rfl rfl N1 rfl HPL.out rfl ?_; intro w2 P2 g2 e2; have B2 := Lib.hid ((B1.out.alloc B1.out.size (.cells (cl pzeros) 92)).grown g2 (by rw [World.size_alloc]; have := B1.out.size; omega) (fun k e => by cases e; exact B1.out.size)); clear N1 g2 e2)
    | (with_reducible refine wpl_pload (.tmp 11) rfl rfl P2 rfl ?_)
    | (go_at_call 53; fail))
  ((with_reducible refine (KF.out _ (HTab.out.below B2.out HTab.out.lt)).mono ?_); rintro e w3 ⟨vb, rfl, hvb, b3⟩)
  have B3 := Lib.hid (B2.out.trans (b3.mono B2.out.size))
  have HVB := Lib.hid hvb
  obtain ⟨A, c, rfl, hc, hm, hr⟩ := hvb
  have HF : re = 0 → rk = kind → rb.length = 8 → tellsV p kind = #[.int .u64 ((le rb : Nat) : Int), .bool true, .int .i64 0] := fun h1 h2 h3 => by unfold tellsV; rw [HT.out, if_pos ⟨h1, h2, h3⟩]; rfl
  have HN : ¬ (re = 0 ∧ rk = kind ∧ rb.length = 8) → tellsV p kind = #[.int .u64 0, .bool false, .int .i64 0] := fun h1 => by unfold tellsV; rw [HT.out, if_neg h1]; rfl
  have HF' := Lib.hid HF
  have HN' := Lib.hid HN
  clear KF b3 hr HF HN
  have hlen := HBL.out
  by_cases h1 : re = 0
  · subst h1
    by_cases h2 : rk = kind
    · have d2 : (((rk.toNat : Nat) : Int) != ((kind.toNat : Nat) : Int)) = false := by rw [h2]; simp
      by_cases h3 : rb.length = 8
      · have HR := Lib.hid (HF'.out (by trivial) h2 h3)
        have KN := Lib.hid (newreader_any _ rb w3 HVB.out (by omega))
        rw [h3] at KN ⊢
        have HB8 := Lib.hid h3
        clear h2 hc hm
        go_wp2_with (first
          | (go_at_call 68; ((with_reducible refine KN.out.mono ?_); rintro e w4 ⟨g', q, rfl, Q2, hg, hq1, hq2, b4⟩; have K8 := Lib.hid (rnum8 g' q rb false w4 Q2); have B4 := Lib.hid (B3.out.trans (b4.mono B3.out.size)); have HG := Lib.hid (show w.heap.size ≤ g' from Nat.le_trans B3.out.size hg); clear KN Q2 hg hq1 hq2 b4))
          | (go_at_call 69; ((with_reducible refine K8.out.mono ?_); rintro e w5 ⟨rfl, _, g5⟩; have B5 := Lib.hid (B4.out.grown g5 B4.out.size (fun k e => by cases e; exact HG.out)); clear K8 g5)))
        refine bodyPost_ret (results_tmp3 rfl _ _ _) rfl ?_
        refine ⟨?_, B5.out⟩
        rw [HR.out, List.take_of_length_le (by rw [HB8.out]; exact Nat.le_refl _)]
        rfl
      · have d3 : (((rb.length : Nat) : Int) != 8) = true := by simp; omega
        have HR := Lib.hid (HN'.out (fun q => h3 q.2.2))
        go_wp2
        refine bodyPost_ret (results_tmp3 rfl _ _ _) rfl ?_
        exact ⟨by rw [HR.out]; rfl, B3.out⟩
    · have d2 : (((rk.toNat : Nat) : Int) != ((kind.toNat : Nat) : Int)) = true := by
        simp only [bne_iff_ne, ne_eq, Int.ofNat_inj]
        exact fun q => h2 (UInt8.toNat_inj.1 (by omega))
      have HR := Lib.hid (HN'.out (fun q => h2 q.2.1))
      go_wp2
      refine bodyPost_ret (results_tmp3 rfl _ _ _) rfl ?_
      exact ⟨by rw [HR.out]; rfl, B3.out⟩
  · have d1 : (((re : Nat) : Int) != 0) = true := by simp; omega
    have HR := Lib.hid (HN'.out (fun q => h1 q.1))
    go_wp2
    refine bodyPost_ret (results_tmp3 rfl _ _ _) rfl ?_
    exact ⟨by rw [HR.out]; rfl, B3.out⟩
set_option maxRecDepth 100000 in
set_option maxHeartbeats 8000000 in
theorem behind_any (l : Lg w g h d t a X N K Bs num) {x : Nat} (hx : x < N - 6) :
    Calls Tryz.prog 81 #[.pointer (some ⟨g, 0, none⟩), .int .i64 (x : Int)] w fun e w' => e = .returned (.tuple #[.int .i64 ((behindM (fun i => (X.blk x).pg.getD i []) 8 : Nat) : Int), .int .i64 0]) ∧ Below w.heap.size w w' := by
  have z := zeroPage
  have HL := Lib.hid l
  have HX := Lib.hid hx
  clear l hx
  go_enter Tryz.func81, Tryz.ntmps81
  go_wp2
  go_loopw [6, 7, 8] (fun vi _ _ wr => ∃ i : Nat, vi = .int .i64 (i : Int) ∧ 2 ≤ i ∧ i ≤ 8 ∧ Hid (behindM (fun i => (X.blk x).pg.getD i []) 8 = behindM (fun i => (X.blk x).pg.getD i []) i) ∧ Hid (Below w.heap.size w wr)) (fun vi _ _ _ => (intOf vi).toNat)
  case atStart => exact ⟨8, rfl, by omega, Nat.le_refl _, Lib.hid rfl, Lib.hid (Below.refl _ _)⟩
  case round =>
    obtain ⟨i, rfl, hi2, hi8, HM, hb⟩ := hrel
    by_cases hlt : 2 < i
    · obtain ⟨j, hj⟩ : ∃ j, i = j + 1 := ⟨i - 1, by omega⟩
      have e1 : (i : Int) - 1 = (j : Int) := by omega
      have HIJ := Lib.hid hj
      have hji : j < i := by omega
      have hj8 : j < 8 := by omega
      have L1 := Lib.hid (HL.out.after hb.out)
      obtain ⟨c0, _, _⟩ := L1.out.cells
      have KR := Lib.hid (L1.out.dk.read HX.out (k := j) hj8)
      have HPL := Lib.hid (L1.out.dk.page HX.out (k := j) hj8)
      obtain ⟨p, hp⟩ : ∃ p, (X.blk x).pg.getD j [] = p := ⟨_, rfl⟩
      rw [hp] at KR HPL
      have HS := Lib.hid (show behindM (fun i => (X.blk x).pg.getD i []) i = if FM.blank p = true then behindM (fun i => (X.blk x).pg.getD i []) j else i by
        have : ¬ (j + 1 ≤ 2) := by omega
        rw [hj]
        conv => lhs; unfold behindM
        rw [if_neg this, hp])
      have KB := Lib.hid (fun W => blank_any p HPL.out W)
      obtain ⟨bk, hbk⟩ : ∃ bk, FM.blank p = bk := ⟨_, rfl⟩
      rw [hbk] at KB HS
      clear hp hbk hj
      have hj2 : 2 ≤ j := by have := HIJ.out; omega
      cases bk with
      | true =>
        have HS2 := Lib.hid (show behindM (fun i => (X.blk x).pg.getD i []) i = behindM (fun i => (X.blk x).pg.getD i []) j by rw [HS.out, if_pos rfl])
        clear HS
        go_wp2_with (first
          | (go_at_call 52; ((with_reducible refine KR.out.mono ?_); rintro e w1 ⟨rfl, b1⟩; have B1 := Lib.hid (hb.out.trans (b1.mono hb.out.size)); have N1 := PArr.new w1 pzeros_length; clear KR b1))
          | (with_reducible refine wpl_pstore (.tmp 7) (.tmp 22) rfl rfl N1 rfl HPL.out rfl ?_; intro w2 P2 g2 e2; have B2 := Lib.hid ((B1.out.alloc B1.out.size (.cells (cl pzeros) 92)).grown g2 (by rw [World.size_alloc]; have := B1.out.size; omega) (fun k e => by cases e; exact B1.out.size)); clear N1 g2 e2)
          | (with_reducible refine wpl_pload (.tmp 7) rfl rfl P2 rfl ?_)
          | (go_at_call 76; ((with_reducible refine (KB.out _).mono ?_); rintro e w3 ⟨rfl, b3⟩; have B3 := Lib.hid (B2.out.trans (b3.mono B2.out.size)); clear KB b3)))
        go_roundw
        case rel => exact ⟨j, by go_num, hj2, by omega, Lib.hid (by rw [HM.out, HS2.out]), B3⟩
        case measure => simp [intOf]; omega
      | false =>
        have HS2 := Lib.hid (show behindM (fun i => (X.blk x).pg.getD i []) i = i by rw [HS.out, if_neg (by decide)])
        clear HS
        go_wp2_with (first
          | (go_at_call 52; ((with_reducible refine KR.out.mono ?_); rintro e w1 ⟨rfl, b1⟩; have B1 := Lib.hid (hb.out.trans (b1.mono hb.out.size)); have N1 := PArr.new w1 pzeros_length; clear KR b1))
          | (with_reducible refine wpl_pstore (.tmp 7) (.tmp 22) rfl rfl N1 rfl HPL.out rfl ?_; intro w2 P2 g2 e2; have B2 := Lib.hid ((B1.out.alloc B1.out.size (.cells (cl pzeros) 92)).grown g2 (by rw [World.size_alloc]; have := B1.out.size; omega) (fun k e => by cases e; exact B1.out.size)); clear N1 g2 e2)
          | (with_reducible refine wpl_pload (.tmp 7) rfl rfl P2 rfl ?_)
          | (go_at_call 76; ((with_reducible refine (KB.out _).mono ?_); rintro e w3 ⟨rfl, b3⟩; have B3 := Lib.hid (B2.out.trans (b3.mono B2.out.size)); clear KB b3)))
        go_ret2
        exact ⟨by rw [HM.out, HS2.out]; rfl, B3.out⟩
    · obtain rfl : i = 2 := by omega
      go_wp2
      go_ret2
      exact ⟨by rw [HM.out]; rfl, hb.out⟩
end
end Go.Proofs.YtdiocjneakfdgaaGreatDoor


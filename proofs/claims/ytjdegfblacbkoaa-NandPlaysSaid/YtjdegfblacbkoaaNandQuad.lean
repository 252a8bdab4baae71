/- Two pairs of chips beside each other, of one power each. No condition. -/
import Derived.Test.YtjdegfblacbkoaaNandAll
namespace Go.Proofs.Ytjdegfblacbkoaa
open Go.RowKit
structure Quad (w : World) (a : At) (r : RAt) (S : Ch) (b : At) (t : RAt) (T : Ch) (p q : Nat) (s : NM.Pwr) (K : Nat → Prop) (B : Nat) : Prop where
  d1 : Duo w a r S p q
  d2 : Duo w b t T p q
  pw : Pows w p q s
  dj : ∀ j, (a.own j ∨ r.own j) → ¬ (b.own j ∨ t.own j)
  kp : ∀ j, K j → (¬ (a.own j ∨ r.own j) ∧ ¬ (b.own j ∨ t.own j) ∧ j ≠ p ∧ j ≠ q) ∧ j < w.heap.size
  fr : ∀ j, (a.own j ∨ r.own j) ∨ (b.own j ∨ t.own j) ∨ j = p ∨ j = q → B ≤ j
section
variable {w w' : World} {a a' b : At} {r r' t : RAt} {S S' T : Ch} {p q B : Nat} {s s' : NM.Pwr} {K : Nat → Prop}
theorem Quad.swap (h : Quad w a r S b t T p q s K B) : Quad w b t T a r S p q s K B :=
  ⟨h.d2, h.d1, h.pw, fun j hj hk => h.dj j hk hj, fun j hj => ⟨⟨(h.kp j hj).1.2.1, (h.kp j hj).1.1, (h.kp j hj).1.2.2⟩, (h.kp j hj).2⟩, fun j hj => h.fr j (by rcases hj with h | h | h; exact .inr (.inl h); exact .inl h; exact .inr (.inr h))⟩
theorem Quad.after (h : Quad w a r S b t T p q s K B) (hb : Below w.heap.size w w') : Quad w' a r S b t T p q s K B :=
  ⟨h.d1.after hb, h.d2.after hb, h.pw.after hb, h.dj, fun j hj => ⟨(h.kp j hj).1, Nat.lt_of_lt_of_le (h.kp j hj).2 hb.size⟩, h.fr⟩
theorem Quad.more (h : Quad w a r S b t T p q s K B) (hb : Below w.heap.size w w') : Quad w' a r S b t T p q s (fun j => w.heap.size ≤ j ∧ j < w'.heap.size) B :=
  ⟨h.d1.after hb, h.d2.after hb, h.pw.after hb, h.dj, fun j hj => ⟨⟨fun e => Nat.lt_irrefl _ (Nat.lt_of_le_of_lt hj.1 (h.d1.lt j e)), fun e => Nat.lt_irrefl _ (Nat.lt_of_le_of_lt hj.1 (h.d2.lt j e)), fun e => by have := h.pw.lt.1; omega, fun e => by have := h.pw.lt.2; omega⟩, hj.2⟩, h.fr⟩
theorem Quad.from_ (h : Quad w a r S b t T p q s K B) : ∀ j, Both a r p q j → B ≤ j := fun j hj => h.fr j (by
  rcases hj with e | e | e | e
  · exact .inl (.inl e)
  · exact .inl (.inr e)
  · exact .inr (.inr (.inl e))
  · exact .inr (.inr (.inr e)))
theorem Quad.keeps (h : Quad w a r S b t T p q s K B) {j : Nat} (hj : K j) : ¬ Both a r p q j := by
  obtain ⟨⟨h1, h2, h3, h4⟩, _⟩ := h.kp j hj
  rintro (e | e | e | e)
  · exact h1 (.inl e)
  · exact h1 (.inr e)
  · exact h3 e
  · exact h4 e
theorem Quad.went (h : Quad w a r S b t T p q s K B) (hB : B ≤ w.heap.size) (g : Went w w' a r a' r' S S' p q s') : Quad w' a' r' S' b t T p q s' K B := by
  refine ⟨g.duo, h.d2.chg g.chg ?_, g.pows, ?_, ?_, ?_⟩
  · rintro j hj (e | e | e | e)
    · exact h.dj j (.inl e) hj
    · exact h.dj j (.inr e) hj
    · exact (h.d2.np j hj).1 e
    · exact (h.d2.np j hj).2 e
  · intro j hj hk
    rcases g.grow j hj with e | e
    · exact h.dj j e hk
    · exact Nat.lt_irrefl _ (Nat.lt_of_le_of_lt e (h.d2.lt j hk))
  · intro j hj
    obtain ⟨⟨h1, h2, h3⟩, h4⟩ := h.kp j hj
    refine ⟨⟨fun e => ?_, h2, h3⟩, Nat.lt_of_lt_of_le h4 g.chg.size⟩
    rcases g.grow j e with e | e
    · exact h1 e
    · omega
  · rintro j (hj | hj)
    · rcases g.grow j hj with e | e
      · exact h.fr j (.inl e)
      · omega
    · exact h.fr j (.inr hj)
theorem Quad.newn (h : Quad w a r S b t T p q s K B) : ¬ Both a r p q w.heap.size := by
  rintro (e | e | e | e)
  · exact Nat.lt_irrefl _ (h.d1.lt _ (.inl e))
  · exact Nat.lt_irrefl _ (h.d1.lt _ (.inr e))
  · have := h.pw.lt.1; omega
  · have := h.pw.lt.2; omega
theorem Quad.kept (h : Quad w a r S b t T p q s K B) {K' : Nat → Prop} (hK : ∀ j, K' j → K j) : Quad w a r S b t T p q s K' B := ⟨h.d1, h.d2, h.pw, h.dj, fun j hj => h.kp j (hK j hj), h.fr⟩
theorem few_le {n m : Nat} (hn : n ≤ m) (h : S.few n) : S.few m := ⟨Nat.le_trans h.1 hn, Nat.le_trans h.2.1 hn, Nat.le_trans h.2.2 hn⟩
theorem OpV.ok.keep {w w' : World} {o : OpV} (h : o.ok w w.heap.size) (hb : Below w.heap.size w w') : o.ok w' w.heap.size := by
  obtain ⟨p1, p2, p3, p4, p5, p6, p7, A, c, e, m1, m2, hrow, hwf⟩ := h
  exact ⟨p1, p2, p3, p4, p5, p6, p7, A, c, e, m1, m2, hrow.below hb, hwf⟩
theorem readPage_length (h : ∀ x ∈ S.bs, x.ok) (off live : Bool) (b k : Int) : (S.readPage (NM.may off live S.bs.length b k) b k).length = 258 := by
  unfold Ch.readPage
  by_cases e : NM.may off live S.bs.length b k = 0
  · obtain ⟨_, _, q1, q2, q3, q4⟩ := may_zero e
    rw [if_pos e]
    exact pageOf_length h (by omega) (by omega)
  · rw [if_neg e]
    exact pzeros_length
end
/-- from here on more is known of the world -/
theorem wpAnyH_weaken {P : Program} {md : Region.Mode} {ops : Array Oper} {Q : Exit → Act → World → Prop} {S S' : World → Prop} (hS : ∀ w, S' w → S w) : ∀ (fuel : Nat) (listed : Array Bool) (a : Act) (w : World), wpAnyH P md ops Q S' fuel listed a w → wpAnyH P md ops Q S fuel listed a w
  | 0, _, _, _, h => h
  | fuel + 1, _, _, _, h => ⟨h.1, fun i hi => wpOp_mono (fun a' w' h' => ⟨hS w' h'.1, wpAnyH_weaken hS fuel _ a' w' h'.2⟩) (h.2 i hi)⟩
/-- a value of many cells is loaded: it may be taken first -/
theorem yields_seg {P : Program} {ops : Array Oper} {o : Oper} {a : Act} {S : World → Prop} {ty t : TypeId} {g i n : Nat} {cs vs : List Value} (hag : ∀ w, (isAgg ty).run P w = .ok true w) (hsz : ∀ w, (sizeOf ty).run P w = .ok n w) (x : Operand) (ho : o.op = .load ty x) (hgd : Region.wanted o (yielded ops a.tmps) = true)
    (hx : a.eval x = .pointer (some ⟨g, i, none⟩)) (hS : ∀ w, S w → Blk w g t cs) (hv : (cs.drop i).take n = vs) (hn : vs.length = n) : YieldsIf P ops S o (.agg vs.toArray) a :=
  .inl ⟨hgd, fun w hw => by
    unfold execOp
    simp only [ho, hx, Instr.loadAt, Instr.sureAddr, Sem.run_bind, Sem.run_pure, Result.andThen_ok, seg_load hag hsz (hS w hw) hv hn]⟩
theorem op_agg (w : World) : (isAgg 39).run Try.prog w = .ok true w := by kernel_rfl
theorem op_eight (w : World) : (sizeOf 39).run Try.prog w = .ok 8 w := by kernel_rfl
theorem chipp_flat (w : World) : (isAgg 30).run Try.prog w = .ok false w := by kernel_rfl
theorem rchipp_flat (w : World) : (isAgg 34).run Try.prog w = .ok false w := by kernel_rfl
end Go.Proofs.Ytjdegfblacbkoaa

/- The program's chip beside the reference's: one plain state. No condition. -/
import Derived.Test.YtjdegfblacbkoaaNandFlips
import Derived.Test.YtjdegfblacbkoaaGreat
import Derived.Test.YtjdegfblacbkoaaNandAnd
namespace Go.Proofs.Ytjdegfblacbkoaa
open Go.RowKit
structure Duo (w : World) (a : At) (r : RAt) (S : Ch) (p q : Nat) : Prop where
  pc : PChip w a S
  rc : RChip w r S
  ap : ∀ j, a.own j → ¬ r.own j
  np : ∀ j, a.own j ∨ r.own j → j ≠ p ∧ j ≠ q
  lt : ∀ j, a.own j ∨ r.own j → j < w.heap.size
  p_ : a.p = p
  q_ : r.p = q
/-- both powers -/
structure Pows (w : World) (p q : Nat) (s : NM.Pwr) : Prop where
  pp : PPow w p s
  rp : RPow w q s
  ne : p ≠ q
  fits : s.fits
section
variable {w w1 w2 : World} {a a' : At} {r r' : RAt} {S S' : Ch} {p q : Nat} {s s' : NM.Pwr}
theorem Pows.lt (h : Pows w p q s) : p < w.heap.size ∧ q < w.heap.size := ⟨h.pp.lt, Blk.lt h.rp⟩
theorem Pows.after (h : Pows w p q s) (hb : Below w.heap.size w w1) : Pows w1 p q s := ⟨h.pp.after hb, h.rp.after hb, h.ne, h.fits⟩
theorem Pows.chg {T : Nat → Prop} (h : Pows w p q s) (hc : Chg w w1 T) (hp : ¬ T p) (hq : ¬ T q) : Pows w1 p q s := ⟨h.pp.chg hc hp, h.rp.chg hc hq, h.ne, h.fits⟩
theorem Duo.chg {T : Nat → Prop} (h : Duo w a r S p q) (hc : Chg w w1 T) (hT : ∀ j, a.own j ∨ r.own j → ¬ T j) : Duo w1 a r S p q :=
  ⟨h.pc.chg hc (fun k hk => hT k (.inl hk)), h.rc.chg hc (fun k hk => hT k (.inr hk)), h.ap, h.np, fun j hj => Nat.lt_of_lt_of_le (h.lt j hj) hc.size, h.p_, h.q_⟩
theorem Duo.after (h : Duo w a r S p q) (hb : Below w.heap.size w w1) : Duo w1 a r S p q := h.chg (T := fun _ => False) (Chg.of_below hb) (fun _ _ => id)
theorem Duo.xlt (h : Duo w a r S p q) : ∀ k, (r.xp = some k ∨ r.xe = some k) → k < w.heap.size := fun k e => h.lt k (.inr (e.elim (fun e => .inr (.inr (.inr (.inr (.inl e))))) (fun e => .inr (.inr (.inr (.inr (.inr e)))))))
theorem Duo.ppc (h : Duo w a r S p q) : PPow w p s → PPow w a.p s := fun hp => by rw [h.p_]; exact hp
theorem Duo.rpc (h : Duo w a r S p q) : RPow w q s → RPow w r.p s := fun hp => by rw [h.q_]; exact hp
end
/-- what a call may change -/
def Both (a : At) (r : RAt) (p q j : Nat) : Prop := a.own j ∨ r.own j ∨ j = p ∨ j = q
/-- what stands behind a call -/
structure Went (w w' : World) (a : At) (r : RAt) (a' : At) (r' : RAt) (S S' : Ch) (p q : Nat) (s' : NM.Pwr) : Prop where
  duo : Duo w' a' r' S' p q
  pows : Pows w' p q s'
  few : ∀ n, S.few n → S'.few (n + 1)
  ac : a'.c = a.c
  rcc : r'.c = r.c
  grow : ∀ j, a'.own j ∨ r'.own j → (a.own j ∨ r.own j) ∨ w.heap.size ≤ j
  chg : Chg w w' (Both a r p q)
section
variable {w w1 w2 : World} {a : At} {r : RAt} {S S' : Ch} {p q : Nat} {s s' : NM.Pwr}
/-- first the program's, then the reference's -/
theorem Duo.went (h : Duo w a r S p q) (hs : Pows w p q s) (c1 : Chg w w1 (fun j => a.own j ∨ j = a.p)) (h1 : PChip w1 a S') (p1 : PPow w1 a.p s') (c2 : Chg w1 w2 (fun j => r.own j ∨ j = r.p)) (h2 : RChip w2 r S') (p2 : RPow w2 r.p s') (hf : s'.fits) (hfew : ∀ n, S.few n → S'.few (n + 1)) : Went w w2 a r a r S S' p q s' := by
  have hp := h.p_
  have hq := h.q_
  refine ⟨⟨h1.chg c2 ?_, h2, h.ap, h.np, fun j hj => Nat.lt_of_lt_of_le (h.lt j hj) (Nat.le_trans c1.size c2.size), hp, hq⟩, ⟨?_, by rw [← hq]; exact p2, hs.ne, hf⟩, hfew, rfl, rfl, fun j hj => .inl hj, ?_⟩
  · rintro k hk (e | e)
    · exact h.ap k hk e
    · exact (h.np k (.inl hk)).2 (by rw [← hq]; exact e)
  · rw [← hp]
    refine p1.chg c2 ?_
    rintro (e | e)
    · exact (h.np _ (.inr e)).1 hp
    · exact hs.ne (by rw [← hp, ← hq]; exact e)
  · refine (c1.more ?_).trans (c2.more ?_)
    · rintro k _ (e | e)
      · exact .inl e
      · exact .inr (.inr (.inl (by rw [← hp]; exact e)))
    · rintro k _ (e | e)
      · exact .inr (.inl e)
      · exact .inr (.inr (.inr (by rw [← hq]; exact e)))
theorem Duo.mid (h : Duo w a r S p q) (hs : Pows w p q s) (c1 : Chg w w1 (fun j => a.own j ∨ j = a.p)) : RChip w1 r S ∧ RPow w1 r.p s := by
  refine ⟨h.rc.chg c1 ?_, ?_⟩
  · rintro k hk (e | e)
    · exact h.ap k e hk
    · exact (h.np k (.inr hk)).1 (by rw [← h.p_]; exact e)
  · rw [h.q_]
    refine hs.rp.chg c1 ?_
    rintro (e | e)
    · exact (h.np _ (.inl e)).2 rfl
    · exact hs.ne (by rw [← h.p_]; exact e.symm)
theorem few_more (n : Nat) (h : S.few n) : S.few (n + 1) := ⟨by have := h.1; omega, by have := h.2.1; omega, by have := h.2.2; omega⟩
theorem few_program (b k : Int) (d : List UInt8) (s : NM.Pwr) (n : Nat) (h : S.few n) : (S.program b k d s).1.few (n + 1) := by
  obtain ⟨h1, h2, h3⟩ := h
  unfold Ch.program
  split
  · exact ⟨by show S.dp ≤ _; omega, by show S.de ≤ _; omega, by show S.cnt ≤ _; omega⟩
  · split
    · exact ⟨by show S.dp ≤ _; omega, by show S.de ≤ _; omega, by show S.cnt ≤ _; omega⟩
    · exact ⟨by show S.dp + 1 ≤ _; omega, by show S.de ≤ _; omega, by show S.cnt + 1 ≤ _; omega⟩
theorem few_erase (b : Int) (s : NM.Pwr) (n : Nat) (h : S.few n) : (S.erase b s).1.few (n + 1) := by
  obtain ⟨h1, h2, h3⟩ := h
  unfold Ch.erase
  split
  · exact ⟨by show S.dp ≤ _; omega, by show S.de ≤ _; omega, by show S.cnt ≤ _; omega⟩
  · simp only
    split
    · exact ⟨by show S.dp ≤ _; omega, by show S.de + 1 ≤ _; omega, by show S.cnt + 1 ≤ _; omega⟩
    · exact ⟨by show S.dp ≤ _; omega, by show S.de + 1 ≤ _; omega, by show S.cnt + 1 ≤ _; omega⟩
theorem program_fits (b k : Int) (d : List UInt8) (h : s.fits) : (S.program b k d s).2.1.fits := by
  unfold Ch.program
  split
  · exact h
  · split
    · exact h
    · exact NM.Pwr.act_fits h
theorem erase_fits (b : Int) (h : s.fits) : (S.erase b s).2.1.fits := by
  unfold Ch.erase
  split
  · exact h
  · exact NM.Pwr.act_fits h
theorem few_flip (b k t : Int) (n : Nat) (h : S.few n) : (S.flip b k t).1.few (n + 1) := by
  obtain ⟨h1, h2, h3⟩ := h
  unfold Ch.flip
  split
  · exact ⟨by show S.dp ≤ _; omega, by show S.de ≤ _; omega, by show S.cnt ≤ _; omega⟩
  · exact ⟨by show S.dp ≤ _; omega, by show S.de ≤ _; omega, by show S.cnt ≤ _; omega⟩
/-- the powers alone turn -/
theorem Duo.wentP (h : Duo w a r S p q) (c1 : Chg w w2 (fun j => j = p ∨ j = q)) (hs : Pows w2 p q s') : Went w w2 a r a r S S p q s' :=
  ⟨h.chg c1 (fun j hj e => e.elim (h.np j hj).1 (h.np j hj).2), hs, fun n hn => few_more n hn, rfl, rfl, fun _ hj => .inl hj, c1.more (fun _ _ e => .inr (.inr e))⟩
end
/-- append at a step of a region that draws its order -/
theorem step_append {P : Program} {w : World} {base : Nat} {t e : TypeId} {z : Value} {bytes : Nat} {v : Value} {xs : List Value} {ops : Array Oper} {o : Oper} {a : Act} {K : Act → World → Prop} {Q : Exit → Act → World → Prop} {E : Prop} (hT : OneCell P t e z bytes) (hgd : Region.wanted o (yielded ops a.tmps) = true) (s x : Operand)
    (ho : o.op = .call { callee := .builtin .append, args := #[s, x], argTypes := #[t, t] })
    (n : Nat) (hs : a.eval s = v) (hown : w.ownsRow base e 1 v n xs) (B : Nat) (A : Option Addr) (c : Nat) (news : List Value) (m : Nat) (hm : news.length = m) (hx : a.eval x = .slice A m c) (hr : Row w B A news)
    (h1 : ∀ u ∈ news, u.oneCell' = true) (hb : (n + m) * bytes ≤ 140737488355328) (h63 : n + m ≤ maxLen) (hbase : base ≤ w.heap.size) (k : Nat) (hk : n + m = k)
    (h : ∀ A' c' w', w'.ownsRow base e 1 (.slice A' k c') k (xs ++ news) → w.grownBy w' v.ownBlock → K (a.put o.dst (.slice A' k c')) w') :
    if Region.wanted o (yielded ops a.tmps) = true then Oper.wp P o a w K Q else E := by
  rw [if_pos hgd]
  obtain ⟨v', w', hrun, h2, h3, h4⟩ := run_append_row hT o.type n hown B A c news m hm hr h1 h63 hb hbase
  obtain ⟨A', c', rfl, _, _⟩ := ownsRow_shape h2
  subst hk
  unfold Oper.wp execOp
  simp only [ho, resolve, invoke, builtin, Sem.run_bind, Sem.run_pure, Result.andThen_ok, List.map_toArray, List.map_cons, List.map_nil, hs, hx, hrun]
  exact h A' c' w' h2 h3
theorem At.told_own {a : At} {pr : Bool} {b j : Nat} (h : (a.told pr b).own j) : a.own j ∨ j = b := by
  unfold At.told at h
  cases pr
  · rcases h with e | e | e | e
    · exact .inl (.inl e)
    · exact .inl (.inr (.inl e))
    · exact .inl (.inr (.inr (.inl e)))
    · exact .inr (Option.some.inj e).symm
  · rcases h with e | e | e | e
    · exact .inl (.inl e)
    · exact .inl (.inr (.inl e))
    · exact .inr (Option.some.inj e).symm
    · exact .inl (.inr (.inr (.inr e)))
theorem RAt.told_own {r : RAt} {pr : Bool} {x : Option Nat} {j : Nat} (h : (r.told pr x).own j) : r.own j ∨ x = some j := by
  unfold RAt.told at h
  cases pr
  · rcases h with e | e | e | e | e | e
    · exact .inl (.inl e)
    · exact .inl (.inr (.inl e))
    · exact .inl (.inr (.inr (.inl e)))
    · exact .inl (.inr (.inr (.inr (.inl e))))
    · exact .inl (.inr (.inr (.inr (.inr (.inl e)))))
    · exact .inr e
  · rcases h with e | e | e | e | e | e
    · exact .inl (.inl e)
    · exact .inl (.inr (.inl e))
    · exact .inl (.inr (.inr (.inl e)))
    · exact .inl (.inr (.inr (.inr (.inl e))))
    · exact .inr e
    · exact .inl (.inr (.inr (.inr (.inr (.inr e)))))
theorem told_few {S : Ch} (pr : Bool) (zs : List Int) (n : Nat) (h : S.few n) : (S.told pr zs).few (n + 1) := by
  obtain ⟨h1, h2, h3⟩ := h
  unfold Ch.told
  cases pr
  · exact ⟨by show S.dp ≤ _; omega, Nat.zero_le _, by show S.cnt ≤ _; omega⟩
  · exact ⟨Nat.zero_le _, by show S.de ≤ _; omega, by show S.cnt ≤ _; omega⟩
/-- both are told which acts fail -/
theorem Duo.wentF {w w1 w2 : World} {a : At} {r : RAt} {S : Ch} {p q b : Nat} {s : NM.Pwr} {pr : Bool} {x : Option Nat} {zs : List Int} (h : Duo w a r S p q) (hs : Pows w p q s) (c1 : Chg w w1 (fun j => j = a.c)) (h1 : PChip w1 (a.told pr b) (S.told pr zs)) (hb : w.heap.size ≤ b) (c2 : Chg w1 w2 (fun j => j = r.c)) (h2 : RChip w2 (r.told pr x) (S.told pr zs)) (hx : ∀ k, x = some k → w1.heap.size ≤ k ∧ k < w2.heap.size) : Went w w2 a r (a.told pr b) (r.told pr x) S (S.told pr zs) p q s := by
  have hbl : b < w1.heap.size := h1.own_lt b (by unfold At.told; cases pr; exact .inr (.inr (.inr rfl)); exact .inr (.inr (.inl rfl)))
  have la : ∀ j, a.own j → j < w.heap.size := fun j hj => h.lt j (.inl hj)
  have lr : ∀ j, r.own j → j < w.heap.size := fun j hj => h.lt j (.inr hj)
  have z1 := c1.size
  have z2 := c2.size
  have lp := hs.lt
  refine ⟨⟨h1.chg c2 ?_, h2, ?_, ?_, ?_, ?_, ?_⟩, (hs.chg c1 (fun e => (h.np a.c (.inl (.inl rfl))).1 e.symm) (fun e => (h.np a.c (.inl (.inl rfl))).2 e.symm)).chg c2 (fun e => (h.np r.c (.inr (.inl rfl))).1 e.symm) (fun e => (h.np r.c (.inr (.inl rfl))).2 e.symm), told_few pr zs, ?_, ?_, ?_, ?_⟩
  · intro k hk e
    rcases At.told_own hk with hk | hk
    · exact h.ap k hk (.inl e)
    · have := lr r.c (.inl rfl)
      omega
  · intro j hj hr
    rcases At.told_own hj with hj | hj
    · rcases RAt.told_own hr with hr | hr
      · exact h.ap j hj hr
      · have := (hx j hr).1; have := la j hj; omega
    · rcases RAt.told_own hr with hr | hr
      · have := lr j hr; omega
      · have := (hx j hr).1; omega
  · rintro j (hj | hj)
    · rcases At.told_own hj with hj | hj
      · exact h.np j (.inl hj)
      · exact ⟨by omega, by omega⟩
    · rcases RAt.told_own hj with hj | hj
      · exact h.np j (.inr hj)
      · have := (hx j hj).1
        exact ⟨by omega, by omega⟩
  · rintro j (hj | hj)
    · rcases At.told_own hj with hj | hj
      · have := la j hj; omega
      · omega
    · rcases RAt.told_own hj with hj | hj
      · have := lr j hj; omega
      · exact (hx j hj).2
  · rw [← h.p_]; unfold At.told; cases pr <;> rfl
  · rw [← h.q_]; unfold RAt.told; cases pr <;> rfl
  · unfold At.told; cases pr <;> rfl
  · unfold RAt.told; cases pr <;> rfl
  · rintro j (hj | hj)
    · rcases At.told_own hj with hj | hj
      · exact .inl (.inl hj)
      · exact .inr (by omega)
    · rcases RAt.told_own hj with hj | hj
      · exact .inl (.inr hj)
      · have := (hx j hj).1
        exact .inr (by omega)
  · exact (c1.more (fun _ _ e => .inl (.inl e))).trans (c2.more (fun _ _ e => .inr (.inl (.inl e))))
end Go.Proofs.Ytjdegfblacbkoaa

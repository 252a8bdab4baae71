/- The program's chip and how many acts its power has left. Condition: at most 32 acts in all. -/
import Derived.Test.YtnclefdlmbkjmaaNandSpeaks
namespace Go.Proofs.Ytnclefdlmbkjmaa
open Go.RowKit
/-- as many acts as have been done and are left make n, or the power has gone in the one behind -/
structure CutI (n : Int) (S : Ch) (s : NM.Pwr) : Prop where
  dp : S.dp ≤ S.cnt
  de : S.de ≤ S.cnt
  or_ : (s.off = false ∧ 0 ≤ s.after ∧ s.after + S.cnt = n) ∨ (s.off = true ∧ (S.cnt : Int) = n + 1)
  fits : s.fits
  n0 : 0 ≤ n
  n31 : n ≤ 31
section
variable {n : Int} {S : Ch} {s : NM.Pwr}
theorem CutI.few (h : CutI n S s) : S.few 1000000 := by
  have h1 := h.dp
  have h2 := h.de
  have h3 := h.n31
  rcases h.or_ with ⟨_, h4, h5⟩ | ⟨_, h5⟩
  · exact ⟨by omega, by omega, by omega⟩
  · exact ⟨by omega, by omega, by omega⟩
theorem CutI.step (h : CutI n S s) (ho : s.off = false) {S' : Ch} (h1 : S'.cnt = S.cnt + 1) (h2 : S'.dp ≤ S.dp + 1) (h3 : S'.de ≤ S.de + 1) : CutI n S' s.act.1 := by
  have a1 := h.dp
  have a2 := h.de
  refine ⟨by omega, by omega, ?_, NM.Pwr.act_fits h.fits, h.n0, h.n31⟩
  rcases h.or_ with ⟨_, h4, h5⟩ | ⟨h4, _⟩
  · unfold NM.Pwr.act
    rw [if_neg (by omega), ho]
    by_cases hz : s.after = 0
    · exact .inr ⟨by simp [hz], by rw [h1]; push_cast; omega⟩
    · exact .inl ⟨by simp [hz], by show 0 ≤ s.after - 1; omega, by rw [h1]; show s.after - 1 + _ = _; push_cast; omega⟩
  · rw [ho] at h4; cases h4
theorem CutI.program (h : CutI n S s) (b k : Int) (d : List UInt8) : CutI n (S.program b k d s).1 (S.program b k d s).2.1 ∧ (s.off = true → S.program b k d s = (S, s, 30)) := by
  unfold Ch.program
  by_cases h1 : NM.may s.off S.live S.bs.length b k = 0
  · have ho : s.off = false := (may_zero h1).1
    rw [if_neg (by simpa using h1)]
    refine ⟨?_, fun e => by rw [ho] at e; cases e⟩
    split
    · exact h
    · exact h.step ho rfl (Nat.le_refl _) (Nat.le_succ _)
  · rw [if_pos h1]
    exact ⟨h, fun e => by unfold NM.may; rw [if_pos e]⟩
theorem CutI.erase (h : CutI n S s) (b : Int) : CutI n (S.erase b s).1 (S.erase b s).2.1 ∧ (s.off = true → S.erase b s = (S, s, 30)) := by
  unfold Ch.erase
  by_cases h1 : NM.may s.off S.live S.bs.length b 0 = 0
  · have ho : s.off = false := (may_zero h1).1
    rw [if_neg (by simpa using h1)]
    refine ⟨?_, fun e => by rw [ho] at e; cases e⟩
    simp only
    split
    · exact h.step ho rfl (Nat.le_succ _) (Nat.le_refl _)
    · exact h.step ho rfl (Nat.le_succ _) (Nat.le_refl _)
  · rw [if_pos h1]
    exact ⟨h, fun e => by unfold NM.may; rw [if_pos e]⟩
end
/-- the chip at a, cnt acts so far, its power as told -/
def PC (w : World) (a : At) (n : Int) (cnt : Nat) (off : Bool) : Prop := ∃ S s, PChip w a S ∧ PPow w a.p s ∧ CutI n S s ∧ S.cnt = cnt ∧ s.off = off
section
variable {w w' : World} {a : At} {n : Int} {cnt : Nat} {off : Bool}
theorem PC.after (h : PC w a n cnt off) (hb : Below w.heap.size w w') : PC w' a n cnt off := by
  obtain ⟨S, s, h1, h2, h3⟩ := h
  exact ⟨S, s, h1.after hb, h2.after hb, h3⟩
theorem PC.cell0 (h : PC w a n cnt off) : w.cell? ⟨a.c, 0, none⟩ = some (.pointer (some ⟨a.p, 0, none⟩)) := by
  obtain ⟨S, s, h1, _⟩ := h
  exact h1.cell.1
theorem PC.all_lt (h : PC w a n cnt off) {j : Nat} (hj : a.all j) : j < w.heap.size := by
  obtain ⟨S, s, h1, h2, _⟩ := h
  rcases hj with hj | rfl
  · exact h1.own_lt j hj
  · exact h2.lt
theorem PC.fact (h : PC w a n cnt off) : (cnt : Int) ≤ n + 1 ∧ off = decide ((cnt : Int) = n + 1) ∧ 0 ≤ n ∧ n ≤ 31 := by
  obtain ⟨S, s, _, _, h3, rfl, rfl⟩ := h
  have h0 := h3.n0
  have h31 := h3.n31
  rcases h3.or_ with ⟨h4, h5, h6⟩ | ⟨h4, h5⟩
  · exact ⟨by omega, by rw [h4, decide_eq_false (by omega)], h0, h31⟩
  · exact ⟨by omega, by rw [h4, decide_eq_true h5], h0, h31⟩
theorem PC.program (h : PC w a n cnt off) (b k : Int) {d : List UInt8} (hd : d.length = 258) :
    Calls Try.prog 24 #[.pointer (some ⟨a.c, 0, none⟩), .int .i64 b, .int .i64 k, .agg (cl d)] w fun e w' => ∃ (r : Int) (cnt' : Nat) (off' : Bool), e = .returned (.int .i64 r) ∧ PC w' a n cnt' off' ∧ (off = true → r = 30 ∧ cnt' = cnt ∧ off' = true) ∧ Chg w w' a.all := by
  obtain ⟨S, s, h1, h2, h3, rfl, rfl⟩ := h
  obtain ⟨h4, h5⟩ := h3.program b k d
  refine (program_any a S s b k d hd h3.fits h3.few w h1 h2).mono (fun e w' hh => ⟨_, _, _, hh.1, ⟨_, _, hh.2.1, hh.2.2.1, h4, rfl, rfl⟩, fun e => ?_, hh.2.2.2⟩)
  rw [h5 e]
  exact ⟨rfl, rfl, e⟩
theorem PC.erase (h : PC w a n cnt off) (b : Int) :
    Calls Try.prog 26 #[.pointer (some ⟨a.c, 0, none⟩), .int .i64 b] w fun e w' => ∃ (r : Int) (cnt' : Nat) (off' : Bool), e = .returned (.int .i64 r) ∧ PC w' a n cnt' off' ∧ (off = true → r = 30 ∧ cnt' = cnt ∧ off' = true) ∧ Chg w w' a.all := by
  obtain ⟨S, s, h1, h2, h3, rfl, rfl⟩ := h
  obtain ⟨h4, h5⟩ := h3.erase b
  refine (erase_any a S s b h3.fits h3.few w h1 h2).mono (fun e w' hh => ⟨_, _, _, hh.1, ⟨_, _, hh.2.1, hh.2.2.1, h4, rfl, rfl⟩, fun e => ?_, hh.2.2.2⟩)
  rw [h5 e]
  exact ⟨rfl, rfl, e⟩
theorem PC.count (h : PC w a n cnt off) : Calls Try.prog 19 #[.pointer (some ⟨a.c, 0, none⟩)] w fun e w' => e = .returned (.int .i64 (cnt : Int)) ∧ w = w' := by
  obtain ⟨S, s, h1, h2, h3, rfl, rfl⟩ := h
  exact chipcount_any a S w h1
theorem PC.isOff (h : PC w a n cnt off) : Calls Try.prog 16 #[.pointer (some ⟨a.p, 0, none⟩)] w fun e w' => e = .returned (.bool off) ∧ w = w' := by
  obtain ⟨S, s, h1, h2, h3, rfl, rfl⟩ := h
  exact off_any a.p s w h2
end
theorem PC.start {w : World} {a : At} {N : Nat} (h1 : PChip w a (Ch.blank N)) (h2 : PPow w a.p NM.Pwr.fresh) (n keep : Int) (hn : 0 ≤ n ∧ n ≤ 31) :
    Calls Try.prog 27 #[.pointer (some ⟨a.p, 0, none⟩), .int .i64 n, .int .i64 keep] w fun e w' => e = .returned (.tuple #[]) ∧ PC w' a n 0 false ∧ Chg w w' a.all := by
  refine (cut_any a.p _ n keep w h2).mono (fun e w' hh => ⟨hh.1, ⟨Ch.blank N, NM.Pwr.fresh.cut n keep, ?_, hh.2.1, ⟨Nat.le_refl _, Nat.le_refl _, .inl ⟨rfl, ?_, ?_⟩, ?_, hn.1, hn.2⟩, rfl, rfl⟩, Chg.of_grown hh.2.2 (fun k e => .inr (Option.some.inj e))⟩)
  · refine h1.chg (T := fun j => j = a.p) (Chg.of_grown hh.2.2 (fun k e => Option.some.inj e)) ?_
    intro j hj e
    subst e
    rcases hj with e | e | e | e
    · exact h1.pc e
    · exact h1.pg e
    · exact (h1.mps _ e).2.2 rfl
    · exact (h1.mes _ e).2.2 rfl
  · show 0 ≤ (if n < 0 then -1 else n)
    rw [if_neg (by omega)]; exact hn.1
  · show (if n < 0 then -1 else n) + ((0 : Nat) : Int) = n
    rw [if_neg (by omega)]; simp
  · unfold NM.Pwr.fits NM.Pwr.cut
    simp only
    rw [if_neg (by omega)]
    omega
end Go.Proofs.Ytnclefdlmbkjmaa

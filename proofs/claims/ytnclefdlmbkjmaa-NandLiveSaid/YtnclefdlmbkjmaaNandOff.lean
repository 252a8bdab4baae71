/- The program's chip that may be out or dead, as one of its blocks sees it, under power that lasts. Condition: that power; few acts so far. -/
import Derived.Test.YtnclefdlmbkjmaaNandSpeaks
namespace Go.Proofs.Ytnclefdlmbkjmaa
open Go.RowKit
/-- the chip at a: block b is X; out or not, dead or not; cnt acts so far -/
def CL (w : World) (a : At) (N b : Nat) (X : Bk) (cnt : Nat) (out dead : Bool) : Prop := ∃ S, PChip w a S ∧ PPow w a.p NM.Pwr.fresh ∧ One S N b X 1000 ∧ S.out = out ∧ S.dead = dead ∧ S.cnt = cnt
section
variable {w w' : World} {a : At} {N b cnt : Nat} {X : Bk} {out dead : Bool}
theorem CL.after (h : CL w a N b X cnt out dead) (hb : Below w.heap.size w w') : CL w' a N b X cnt out dead := by
  obtain ⟨S, h1, h2, h3⟩ := h
  exact ⟨S, h1.after hb, h2.after hb, h3⟩
theorem CL.all_lt (h : CL w a N b X cnt out dead) {j : Nat} (hj : a.all j) : j < w.heap.size := by
  obtain ⟨S, h1, h2, _⟩ := h
  rcases hj with hj | rfl
  · exact h1.own_lt j hj
  · exact h2.lt
theorem ne_pc {S : Ch} (h1 : PChip w a S) : ¬ a.p = a.c := h1.pc
theorem CL.put (h : CL w a N b X cnt out dead) (v : Bool) : Calls Try.prog 31 #[.pointer (some ⟨a.c, 0, none⟩), .bool v] w fun e w' => e = .returned (.tuple #[]) ∧ CL w' a N b X cnt (!v) dead ∧ Chg w w' a.all := by
  obtain ⟨S, h1, h2, h3, h4, h5, h6⟩ := h
  exact (put_any a S v w h1).mono (fun e w' hh => ⟨hh.1, ⟨S.setOut !v, hh.2.1, h2.chg hh.2.2 h1.pc, ⟨h3.at_, h3.lt, h3.fp, h3.fe, h3.good, h3.few⟩, rfl, h5, h6⟩, hh.2.2.more (fun k _ e => .inl (.inl e))⟩)
theorem CL.die (h : CL w a N b X cnt out dead) : Calls Try.prog 30 #[.pointer (some ⟨a.c, 0, none⟩)] w fun e w' => e = .returned (.tuple #[]) ∧ CL w' a N b X cnt out true ∧ Chg w w' a.all := by
  obtain ⟨S, h1, h2, h3, h4, h5, h6⟩ := h
  exact (die_any a S w h1).mono (fun e w' hh => ⟨hh.1, ⟨S.setDead, hh.2.1, h2.chg hh.2.2 h1.pc, ⟨h3.at_, h3.lt, h3.fp, h3.fe, h3.good, h3.few⟩, h4, rfl, h6⟩, hh.2.2.more (fun k _ e => .inl (.inl e))⟩)
theorem CL.count (h : CL w a N b X cnt out dead) : Calls Try.prog 19 #[.pointer (some ⟨a.c, 0, none⟩)] w fun e w' => e = .returned (.int .i64 (cnt : Int)) ∧ w = w' := by
  obtain ⟨S, h1, h2, h3, h4, h5, h6⟩ := h
  have := chipcount_any a S w h1
  rwa [h6] at this
theorem CL.live (h : CL w a N b X cnt out dead) {v : Bool} (hv : (!out && !dead) = v) : Calls Try.prog 17 #[.pointer (some ⟨a.c, 0, none⟩)] w fun e w' => e = .returned (.bool v) ∧ w = w' := by
  obtain ⟨S, h1, h2, h3, h4, h5, h6⟩ := h
  have := live_any a S w h1
  rwa [show S.live = v by unfold Ch.live; rw [h4, h5, hv]] at this
theorem may_dead {M : Int} {b k : Int} : NM.may false false M b k = 31 := rfl
theorem CL.read (h : CL w a N b X cnt out dead) (hv : (!out && !dead) = true) {k : Nat} (hk : k < 8) {zb zk : Int} (e1 : zb = (b : Int)) (e2 : zk = (k : Int)) :
    Calls Try.prog 21 #[.pointer (some ⟨a.c, 0, none⟩), .int .i64 zb, .int .i64 zk] w fun e w' => e = .returned (.tuple #[.agg (cl (X.pg.getD k [])), .int .i64 0]) ∧ Below w.heap.size w w' := by
  subst e1 e2
  obtain ⟨S, h1, h2, h3, h4, h5, h6⟩ := h
  have hl : S.live = true := by unfold Ch.live; rw [h4, h5, hv]
  have k1 := read_any a S _ b k w h1 h2
  have hm : NM.may NM.Pwr.fresh.off S.live (S.bs.length : Int) (b : Int) (k : Int) = 0 := may_ok rfl hl (by rw [h3.len]; exact h3.lt) hk
  rw [hm, h3.page] at k1
  exact k1
theorem CL.readDead (h : CL w a N b X cnt out dead) (hv : (!out && !dead) = false) (zb zk : Int) :
    Calls Try.prog 21 #[.pointer (some ⟨a.c, 0, none⟩), .int .i64 zb, .int .i64 zk] w fun e w' => e = .returned (.tuple #[.agg (cl pzeros), .int .i64 31]) ∧ Below w.heap.size w w' := by
  obtain ⟨S, h1, h2, h3, h4, h5, h6⟩ := h
  have hl : S.live = false := by unfold Ch.live; rw [h4, h5, hv]
  have k1 := read_any a S _ zb zk w h1 h2
  rw [show NM.may NM.Pwr.fresh.off S.live (S.bs.length : Int) zb zk = 31 by rw [hl]; rfl] at k1
  exact k1
theorem CL.eraseDead (h : CL w a N b X cnt out dead) (hv : (!out && !dead) = false) (zb : Int) :
    Calls Try.prog 26 #[.pointer (some ⟨a.c, 0, none⟩), .int .i64 zb] w fun e w' => e = .returned (.int .i64 31) ∧ CL w' a N b X cnt out dead ∧ Chg w w' a.all := by
  obtain ⟨S, h1, h2, h3, h4, h5, h6⟩ := h
  have hl : S.live = false := by unfold Ch.live; rw [h4, h5, hv]
  obtain ⟨f1, f2, f3⟩ := h3.few
  have k1 := erase_any a S _ zb fresh_fits ⟨by omega, by omega, by omega⟩ w h1 h2
  have hm : NM.may NM.Pwr.fresh.off S.live (S.bs.length : Int) zb 0 = 31 := by rw [hl]; rfl
  rw [show S.erase zb NM.Pwr.fresh = (S, NM.Pwr.fresh, 31) by unfold Ch.erase; rw [hm, if_pos (by omega)]] at k1
  exact k1.mono (fun e w' hh => ⟨hh.1, ⟨S, hh.2.1, hh.2.2.1, h3, h4, h5, h6⟩, hh.2.2.2⟩)
theorem CL.programDead (h : CL w a N b X cnt out dead) (hv : (!out && !dead) = false) (zb zk : Int) {d : List UInt8} (hd : d.length = 258) :
    Calls Try.prog 24 #[.pointer (some ⟨a.c, 0, none⟩), .int .i64 zb, .int .i64 zk, .agg (cl d)] w fun e w' => e = .returned (.int .i64 31) ∧ CL w' a N b X cnt out dead ∧ Chg w w' a.all := by
  obtain ⟨S, h1, h2, h3, h4, h5, h6⟩ := h
  have hl : S.live = false := by unfold Ch.live; rw [h4, h5, hv]
  obtain ⟨f1, f2, f3⟩ := h3.few
  have k1 := program_any a S _ zb zk d hd fresh_fits ⟨by omega, by omega, by omega⟩ w h1 h2
  have hm : NM.may NM.Pwr.fresh.off S.live (S.bs.length : Int) zb zk = 31 := by rw [hl]; rfl
  rw [show S.program zb zk d NM.Pwr.fresh = (S, NM.Pwr.fresh, 31) by unfold Ch.program; rw [hm, if_pos (by omega)]] at k1
  exact k1.mono (fun e w' hh => ⟨hh.1, ⟨S, hh.2.1, hh.2.2.1, h3, h4, h5, h6⟩, hh.2.2.2⟩)
end
/-- a blank chip whose block was written once -/
theorem CL.start {w : World} {p g N b : Nat} {d : List UInt8} (hd : d.length = 258) (hb : b < N) (h1 : PChip w ⟨g + 1, g, p, none, none⟩ (Ch.blank N)) (hp : PPow w p NM.Pwr.fresh) {a : At} (ha : a = ⟨g + 1, g, p, none, none⟩) {zb : Int} (e1 : zb = (b : Int)) :
    Calls Try.prog 24 #[.pointer (some ⟨a.c, 0, none⟩), .int .i64 zb, .int .i64 0, .agg (cl d)] w fun e w' => e = .returned (.int .i64 0) ∧ CL w' a N b ((Bk.blank.setNext (0 + 1)).setPage 0 (NM.wr 258 (Bk.blank.pg.getD 0 []) d)) 1 false false ∧ Chg w w' a.all := by
  subst ha e1
  have h3 := One.blank hb
  have k1 := program_any ⟨g + 1, g, p, none, none⟩ (Ch.blank N) NM.Pwr.fresh b (0 : Nat) d hd fresh_fits ⟨by show 0 ≤ 1000000; omega, by show 0 ≤ 1000000; omega, by show 0 ≤ 1000000; omega⟩ w h1 hp
  have hs : ∀ S' r t, (Ch.blank N).program (b : Int) ((0 : Nat) : Int) d NM.Pwr.fresh = (S', r, t) → S'.out = false ∧ S'.dead = false ∧ S'.cnt = 1 := by
    intro S' r t e
    unfold Ch.program at e
    have hm : NM.may NM.Pwr.fresh.off (Ch.blank N).live ((Ch.blank N).bs.length : Int) (b : Int) ((0 : Nat) : Int) = 0 := may_ok rfl rfl (by rw [h3.len]; exact hb) (by omega)
    rw [if_neg (by rw [hm]; simp), if_neg (by
      rw [Int.toNat_natCast]
      unfold Ch.nextOf
      rw [h3.bk]
      simp [Bk.blank])] at e
    have e' := congrArg (·.1) e
    simp only at e'
    rw [← e']
    exact ⟨rfl, rfl, rfl⟩
  obtain ⟨S', e, hl', h3'⟩ := h3.prog (s := NM.Pwr.fresh) rfl rfl (k := 0) (by omega) rfl d
  obtain ⟨o1, o2, o3⟩ := hs _ _ _ e
  rw [e] at k1
  obtain ⟨f1, f2, f3⟩ := h3'.few
  exact k1.mono (fun e w' hh => ⟨hh.1, ⟨S', hh.2.1, hh.2.2.1, ⟨h3'.at_, h3'.lt, h3'.fp, h3'.fe, h3'.good, ⟨by omega, by omega, by omega⟩⟩, o1, o2, o3⟩, hh.2.2.2⟩)
end Go.Proofs.Ytnclefdlmbkjmaa

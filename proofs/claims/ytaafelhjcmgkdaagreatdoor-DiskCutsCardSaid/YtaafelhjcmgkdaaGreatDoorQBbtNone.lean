/- The walk of BbtNone: it answers true, and changes nothing that was there. Condition: the table of the check sum holds its sixteen numbers. -/
import Derived.Test.YtaafelhjcmgkdaaGreatDoorQBbtSpeaks
namespace Go.Proofs.YtaafelhjcmgkdaaGreatDoor
open Go.RowKit
section
variable {w w' : World} {a : At} {S S' : Ch} {s s' : NM.Pwr}
theorem PChip.own_p (h : PChip w a S) : ¬ a.own a.p := by
  rintro (e | e | e | e)
  · exact h.pc e
  · exact h.pg e
  · exact (h.mps _ e).2.2 rfl
  · exact (h.mes _ e).2.2 rfl
theorem Dev.cut (h : Dev w a S s) (g : w.grownBy w' (some a.p)) (hp : PPow w' a.p s') (hf : s'.fits) : Dev w' a S s' := by
  have q : Chg w w' (fun k => k = a.p) := Chg.of_grown g (fun k e => Option.some.inj e)
  exact ⟨h.pc.chg q (fun k hk e => h.pc.own_p (e ▸ hk)), hp, h.tab.chg q (fun e => h.far _ (.inr e) rfl), h.far, hf⟩
theorem Dev.set (h : Dev w a S s) (hc : Chg w w' (fun j => j = a.c)) (hp : PChip w' a S') : Dev w' a S' s :=
  ⟨hp, h.pw.chg hc h.pc.pc, h.tab.chg hc (fun e => h.far _ (.inl (.inl e)) rfl), h.far, h.fits⟩
theorem look_none (h : S.mayE s ≠ 0) : S.lookE s = S.mayE s := if_neg h
theorem open_off (hD : Dev w a S s) (h : S.mayE s ≠ 0) : Calls Tryz.prog 34 #[.pointer (some ⟨a.c, 0, none⟩)] w fun e w' => e = .returned (.tuple #[.pointer none, .int .i64 (S.mayE s)]) ∧ Below w.heap.size w w' := by
  have := open_none hD (by rw [look_none h]; exact h)
  rw [look_none h] at this
  exact this
end
theorem marked_look {N : Nat} (hN : 16 ≤ N) (zs : List Int) : (Ch.marked N zs).lookE NM.Pwr.fresh = 35 := by
  unfold Ch.lookE
  rw [if_pos (marked_may hN zs), lookTo_none (bs := (Ch.marked N zs).bs) (fun i hi => by
    have : pageOf (Ch.marked N zs).bs (i / 8) (i % 8) = NM.ff := by
      show ((markB N zs).getD (i / 8) ⟨[], 0, false⟩).pg.getD (i % 8) [] = NM.ff
      rw [markB_getD zs (by omega)]
      exact ff_pages (by omega)
    rw [this]
    exact tableOf_ff) 16 (Nat.le_refl _)]
  rfl
theorem newE_ok {n : Int} {zs : List Int} (h : newE n zs ≠ 1) : ∃ N : Nat, n = N ∧ 16 ≤ N ∧ N ≤ 40 ∧ badOut N zs = false := by
  unfold newE at h
  split at h
  · exact absurd rfl h
  · rename_i c
    refine ⟨n.toNat, by omega, by omega, by omega, ?_⟩
    rw [show ((n.toNat : Nat) : Int) = n by omega]
    cases e : badOut n zs with
    | false => rfl
    | true => exact absurd (.inr (.inr e)) c
def offPwr : NM.Pwr := NM.Pwr.fresh.cut 0 0
theorem off_erase {N : Nat} (hN : 16 ≤ N) (zs : List Int) : (((Ch.marked N zs).erase 2 offPwr).1).mayE ((Ch.marked N zs).erase 2 offPwr).2.1 = 30 := by
  have hm : NM.may offPwr.off (Ch.marked N zs).live ((Ch.marked N zs).bs.length : Int) 2 0 = 0 := may_here (b := 2) (k := 0) rfl rfl (by show 2 < (markB N zs).length; rw [markB_length]; omega) (by omega)
  have : ((Ch.marked N zs).erase 2 offPwr).2.1 = offPwr.act.1 := by
    unfold Ch.erase
    rw [if_neg (by rw [hm]; simp)]
  unfold Ch.mayE NM.may
  rw [this]
  rfl
theorem dead_may {N : Nat} (zs : List Int) : (Ch.marked N zs).setDead.mayE NM.Pwr.fresh = 31 := rfl
end Go.Proofs.YtaafelhjcmgkdaaGreatDoor


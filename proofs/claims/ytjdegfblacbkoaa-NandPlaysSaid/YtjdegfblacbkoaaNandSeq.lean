/- The program's chip while its pages are written in order: which Programs fail. Condition: fewer than 128 pages so far; the power lasts. -/
import Derived.Test.YtjdegfblacbkoaaNandFault
import Derived.Test.YtjdegfblacbkoaaNandSpeaks
namespace Go.Proofs.Ytjdegfblacbkoaa
open Go.RowKit
/-- i pages were written, in order; f tells which ones fail -/
structure Seq (S : Ch) (i : Nat) (f : Int → Bool) : Prop where
  len : S.bs.length = 16
  nx : ∀ b, b < 16 → (S.bs.getD b ⟨[], 0, false⟩).nx = min 8 (i - 8 * b)
  good : ∀ b, b < 16 → (S.bs.getD b ⟨[], 0, false⟩).bad = false
  live : S.live = true
  dp : S.dp = i
  de : S.de = 0
  cnt : S.cnt = i
  fp : ∀ j : Int, 0 ≤ j → S.fp j = f j
theorem getD_set {Bs : List Bk} {b j : Nat} (hb : b < Bs.length) (x d : Bk) : (Bs.set b x).getD j d = if j = b then x else Bs.getD j d := by
  rw [List.getD_eq_getElem?_getD, List.getElem?_set, List.getD_eq_getElem?_getD]
  by_cases e : b = j
  · subst e; simp [hb]
  · rw [if_neg e, if_neg (fun h => e h.symm)]
theorem Seq.blank : Seq (Ch.blank 16) 0 (fun _ => false) := by
  have h : ∀ b, b < 16 → (Ch.blank 16).bs.getD b ⟨[], 0, false⟩ = Bk.blank := fun b hb => by
    show (List.replicate 16 Bk.blank).getD b _ = _
    rw [List.getD_eq_getElem?_getD, List.getElem?_replicate, if_pos hb, Option.getD_some]
  exact ⟨by simp [Ch.blank], fun b hb => by rw [h b hb]; show 0 = _; omega, fun b hb => by rw [h b hb]; rfl, rfl, rfl, rfl, rfl, fun _ _ => rfl⟩
theorem Seq.told {f : Int → Bool} {S : Ch} (h : Seq S 0 f) (zs : List Int) : Seq (S.told true zs) 0 (fun i => decide (i ∈ zs)) :=
  ⟨h.len, h.nx, h.good, h.live, rfl, h.de, h.cnt, fun _ _ => rfl⟩
theorem Seq.step {f : Int → Bool} {S : Ch} {i : Nat} (h : Seq S i f) (hi : i < 128) (d : List UInt8) :
    ∃ S', S.program ((i / 8 : Nat) : Int) ((i % 8 : Nat) : Int) d NM.Pwr.fresh = (S', NM.Pwr.fresh, if f (i : Int) then 33 else 0) ∧ Seq S' (i + 1) f := by
  have hb : i / 8 < 16 := by omega
  have hm : NM.may NM.Pwr.fresh.off S.live (S.bs.length : Int) ((i / 8 : Nat) : Int) ((i % 8 : Nat) : Int) = 0 := may_ok rfl h.live (by rw [h.len]; exact hb) (by omega)
  have hx : S.nextOf (i / 8) = i % 8 := by unfold Ch.nextOf; rw [h.nx _ hb]; omega
  have e1 : (S.setNext (i / 8) (i % 8 + 1)).bs = S.bs.set (i / 8) ((S.bs.getD (i / 8) ⟨[], 0, false⟩).setNext (i % 8 + 1)) := rfl
  have hl : i / 8 < S.bs.length := by rw [h.len]; exact hb
  have e2 : (S.setNext (i / 8) (i % 8 + 1)).bs.getD (i / 8) ⟨[], 0, false⟩ = (S.bs.getD (i / 8) ⟨[], 0, false⟩).setNext (i % 8 + 1) := by
    rw [e1, getD_set hl, if_pos rfl]
  have hbad : ((S.bs.getD (i / 8) ⟨[], 0, false⟩).setNext (i % 8 + 1)).bad = false := h.good _ hb
  refine ⟨((S.setNext (i / 8) (i % 8 + 1)).actP (i / 8) (i % 8) d NM.Pwr.fresh).1, ?_, ?_⟩
  · unfold Ch.program
    rw [if_neg (by rw [hm]; simp), Int.toNat_natCast, Int.toNat_natCast, hx, if_neg (by simp)]
    have : ((S.setNext (i / 8) (i % 8 + 1)).actP (i / 8) (i % 8) d NM.Pwr.fresh).2 = if f (i : Int) then 33 else 0 := by
      unfold Ch.actP
      rw [e2, hbad]
      show (actN false (S.fp S.dp) false 0 258 129).2 = _
      rw [h.dp, h.fp _ (by omega)]
      unfold actN
      cases f (i : Int) <;> rfl
    rw [this]
    rfl
  · have hbs : ((S.setNext (i / 8) (i % 8 + 1)).actP (i / 8) (i % 8) d NM.Pwr.fresh).1.bs = S.bs.set (i / 8) (((S.bs.getD (i / 8) ⟨[], 0, false⟩).setNext (i % 8 + 1)).setPage (i % 8) (NM.wr (actN NM.Pwr.fresh.act.2 (S.fp S.dp) ((S.bs.getD (i / 8) ⟨[], 0, false⟩).setNext (i % 8 + 1)).bad NM.Pwr.fresh.keep 258 129).1 (pageOf (S.setNext (i / 8) (i % 8 + 1)).bs (i / 8) (i % 8)) d)) := by
      unfold Ch.actP putPage
      simp only
      rw [e2, e1, List.set_set]
      rfl
    refine ⟨?_, fun b hb' => ?_, fun b hb' => ?_, h.live, ?_, h.de, ?_, h.fp⟩
    · rw [hbs, List.length_set, h.len]
    · rw [hbs, getD_set hl]
      by_cases e : b = i / 8
      · rw [if_pos e]
        show i % 8 + 1 = _
        omega
      · rw [if_neg e, h.nx b hb']
        omega
    · rw [hbs, getD_set hl]
      by_cases e : b = i / 8
      · rw [if_pos e]
        exact hbad
      · rw [if_neg e, h.good b hb']
    · show S.dp + 1 = i + 1
      rw [h.dp]
    · show S.cnt + 1 = i + 1
      rw [h.cnt]
/-- the chip at a, of which i pages were written in order -/
def PS (w : World) (a : At) (i : Nat) (f : Int → Bool) : Prop := ∃ S, PChip w a S ∧ Seq S i f
section
variable {w w' : World} {a b : At} {i : Nat} {f : Int → Bool}
theorem PS.after (h : PS w a i f) (hb : Below w.heap.size w w') : PS w' a i f := by
  obtain ⟨S, h1, h2⟩ := h
  exact ⟨S, h1.after hb, h2⟩
theorem PS.own_lt (h : PS w a i f) {j : Nat} (hj : a.own j) : j < w.heap.size := by
  obtain ⟨S, h1, _⟩ := h
  exact h1.own_lt j hj
theorem PS.chg {T : Nat → Prop} (h : PS w a i f) (hc : Chg w w' T) (hT : ∀ j, a.own j → ¬ T j) : PS w' a i f := by
  obtain ⟨S, h1, h2⟩ := h
  exact ⟨S, h1.chg hc hT, h2⟩
theorem PS.np (h : PS w a i f) : ¬ a.own a.p := by
  obtain ⟨S, h1, h2⟩ := h
  rintro (e | e | e | e)
  · exact h1.pc e
  · exact h1.pg e
  · exact (h1.mps _ e).2.2 rfl
  · exact (h1.mes _ e).2.2 rfl
theorem PS.program (h : PS w a i f) (hp : PPow w a.p NM.Pwr.fresh) (hi : i < 128) {d : List UInt8} (hd : d.length = 258) {zb zk r : Int} (e1 : zb = ((i / 8 : Nat) : Int)) (e2 : zk = ((i % 8 : Nat) : Int)) (e3 : r = if f (i : Int) then 33 else 0) :
    Calls Try.prog 21 #[.pointer (some ⟨a.c, 0, none⟩), .int .i64 zb, .int .i64 zk, .agg (cl d)] w fun e w' => e = .returned (.int .i64 r) ∧ PS w' a (i + 1) f ∧ PPow w' a.p NM.Pwr.fresh ∧ Chg w w' a.all := by
  subst e1 e2 e3
  obtain ⟨S, h1, h2⟩ := h
  have k1 := program_any a S NM.Pwr.fresh ((i / 8 : Nat) : Int) ((i % 8 : Nat) : Int) d hd fresh_fits ⟨by rw [h2.dp]; omega, by rw [h2.de]; omega, by rw [h2.cnt]; omega⟩ w h1 hp
  obtain ⟨S', e, h3⟩ := h2.step hi d
  rw [e] at k1
  exact k1.mono (fun e w' hh => ⟨hh.1, ⟨S', hh.2.1, h3⟩, hh.2.2.1, hh.2.2.2⟩)
theorem PS.count (h : PS w a i f) : Calls Try.prog 15 #[.pointer (some ⟨a.c, 0, none⟩)] w fun e w' => e = .returned (.int .i64 (i : Int)) ∧ w = w' := by
  obtain ⟨S, h1, h2⟩ := h
  have k1 := chipcount_any a S w h1
  rw [h2.cnt] at k1
  exact k1
theorem PS.fail (h : PS w a 0 f) (hp : a.p < w.heap.size) {v : Value} {zs : List Int} (hv : Nums w w.heap.size .i64 v zs) (hl : zs.length ≤ 900) :
    Calls Try.prog 20 #[.pointer (some ⟨a.c, 0, none⟩), .bool true, v] w fun e w' => ∃ b, e = .returned (.tuple #[]) ∧ w.heap.size ≤ b ∧ PS w' { a with mp := some b } 0 (fun i => decide (i ∈ zs)) ∧ Chg w w' (fun j => j = a.c) := by
  obtain ⟨S, h1, h2⟩ := h
  exact (fail_any a S true zs v hl w hp h1 hv).mono (fun e w' ⟨b, r1, r2, r3, r4⟩ => ⟨b, r1, r2, ⟨_, r3, h2.told zs⟩, r4⟩)
end
theorem PS.new (p : Nat) (s : NM.Pwr) (w : World) (hp : PPow w p s) {z : Int} (hz : z = 16) :
    Calls Try.prog 9 #[.pointer (some ⟨p, 0, none⟩), .int .i64 z, .slice none 0 0] w fun e w' =>
      e = .returned (.tuple #[.pointer (some ⟨w.heap.size + 1, 0, none⟩), .int .i64 0]) ∧ PS w' ⟨w.heap.size + 1, w.heap.size, p, none, none⟩ 0 (fun _ => false) ∧ Below w.heap.size w w' := by
  subst hz
  exact (new_any 16 (by omega) p s w hp).mono (fun e w' hh => ⟨hh.1, ⟨Ch.blank 16, hh.2.1, Seq.blank⟩, hh.2.2⟩)
end Go.Proofs.Ytjdegfblacbkoaa

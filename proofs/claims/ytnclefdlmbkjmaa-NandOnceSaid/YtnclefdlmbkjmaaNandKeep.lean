/- A page of block 5 that was written, whatever else is done but an Erase of that block. Condition: few acts. -/
import Derived.Test.YtnclefdlmbkjmaaNandSpeaks
import Derived.Test.YtnclefdlmbkjmaaNandTornM
namespace Go.Proofs.Ytnclefdlmbkjmaa
open Go.RowKit
def dBk : Bk := ⟨[], 0, false⟩
theorem getD_set {Bs : List Bk} {b c : Nat} {X : Bk} (hb : b < Bs.length) : (Bs.set b X).getD c dBk = if b = c then X else Bs.getD c dBk := by
  rw [List.getD_eq_getElem?_getD, List.getElem?_set]
  by_cases h : b = c
  · subst h; rw [if_pos rfl, if_pos rfl, if_pos hb]; rfl
  · rw [if_neg h, if_neg h, List.getD_eq_getElem?_getD]
structure KeepI (d : List UInt8) (m : Nat) (S : Ch) (s : NM.Pwr) : Prop where
  len : S.bs.length = 20
  pg : (S.bs.getD 5 dBk).pg.getD 0 [] = d
  nx : 1 ≤ (S.bs.getD 5 dBk).nx
  good : (S.bs.getD 5 dBk).bad = false
  fp : ∀ i, S.fp i = false
  fe : ∀ i, S.fe i = false
  live : S.live = true
  few : S.few m
  fits : s.fits
section
variable {d : List UInt8} {m : Nat} {S : Ch} {s : NM.Pwr}
theorem KeepI.to (h : KeepI d m S s) {S' : Ch} {s' : NM.Pwr} (h1 : S'.bs.length = 20) (h2 : (S'.bs.getD 5 dBk).pg.getD 0 [] = d) (h3 : 1 ≤ (S'.bs.getD 5 dBk).nx) (h4 : (S'.bs.getD 5 dBk).bad = false) (h5 : S'.fp = S.fp) (h6 : S'.fe = S.fe) (h7 : S'.live = S.live) (h8 : S'.few (m + 1)) (h9 : s'.fits) : KeepI d (m + 1) S' s' :=
  ⟨h1, h2, h3, h4, by rw [h5]; exact h.fp, by rw [h6]; exact h.fe, by rw [h7]; exact h.live, h8, h9⟩
theorem KeepI.more (h : KeepI d m S s) : KeepI d (m + 1) S s := by
  obtain ⟨f1, f2, f3⟩ := h.few
  exact ⟨h.len, h.pg, h.nx, h.good, h.fp, h.fe, h.live, ⟨by omega, by omega, by omega⟩, h.fits⟩
theorem next_bk {S : Ch} {b n : Nat} (hb : b < S.bs.length) : (S.setNext b n).bs.getD 5 dBk = if b = 5 then (S.bs.getD 5 dBk).setNext n else S.bs.getD 5 dBk := by
  show (S.bs.set b ((S.bs.getD b dBk).setNext n)).getD 5 dBk = _
  rw [getD_set hb]
  by_cases h : b = 5
  · subst h; simp
  · rw [if_neg h, if_neg h]
theorem put_bk {S : Ch} {b n k : Nat} (hb : b < S.bs.length) (L : List UInt8) : (putPage (S.setNext b n).bs b k L).getD 5 dBk = if b = 5 then ((S.bs.getD 5 dBk).setNext n).setPage k L else S.bs.getD 5 dBk := by
  have hl : (S.setNext b n).bs.length = S.bs.length := by simp [Ch.setNext]
  show ((S.setNext b n).bs.set b (((S.setNext b n).bs.getD b dBk).setPage k L)).getD 5 dBk = _
  rw [getD_set (by rw [hl]; exact hb)]
  by_cases h : b = 5
  · subst h; rw [if_pos rfl, if_pos rfl, next_bk hb, if_pos rfl]
  · rw [if_neg h, if_neg h, next_bk hb, if_neg h]
theorem wipe_bk {S : Ch} {b n j : Nat} (hb : b < S.bs.length) (h : b ≠ 5) : (wipeB (S.setNext b n).bs b j).getD 5 dBk = S.bs.getD 5 dBk := by
  have hl : (S.setNext b n).bs.length = S.bs.length := by simp [Ch.setNext]
  unfold wipeB
  rw [getD_set (by rw [hl]; exact hb), if_neg h, next_bk hb, if_neg h]
theorem KeepI.program (h : KeepI d m S s) (b k : Int) (x : List UInt8) : KeepI d (m + 1) (S.program b k x s).1 (S.program b k x s).2.1 := by
  unfold Ch.program
  by_cases h1 : NM.may s.off S.live S.bs.length b k = 0
  · obtain ⟨ho, hlv, q1, q2, q3, q4⟩ := may_zero h1
    rw [if_neg (by simpa using h1)]
    split
    · exact h.more
    · rename_i hk
      have hk' : k = (S.nextOf b.toNat : Int) := by simpa using hk
      have hb : b.toNat < S.bs.length := by omega
      obtain ⟨f1, f2, f3⟩ := h.few
      have hl1 : (S.setNext b.toNat (k.toNat + 1)).bs.length = S.bs.length := by simp [Ch.setNext]
      have hnx := h.nx
      have hpg := h.pg
      have hgd := h.good
      have key := fun L => put_bk (n := k.toNat + 1) (k := k.toNat) hb L
      have hk5 : b.toNat = 5 → k.toNat ≠ 0 := fun e => by
        rw [e] at hk'
        have : S.nextOf 5 = (S.bs.getD 5 dBk).nx := rfl
        omega
      refine h.to ?_ ?_ ?_ ?_ rfl rfl rfl ⟨by show S.dp + 1 ≤ m + 1; omega, by show S.de ≤ m + 1; omega, by show S.cnt + 1 ≤ m + 1; omega⟩ (NM.Pwr.act_fits h.fits)
      · show (putPage _ _ _ _).length = 20
        rw [putPage_length, hl1, h.len]
      · show ((putPage _ _ _ _).getD 5 dBk).pg.getD 0 [] = d
        rw [key]
        split
        · rename_i e
          show ((S.bs.getD 5 dBk).pg.set k.toNat _).getD 0 [] = d
          rw [List.getD_eq_getElem?_getD, List.getElem?_set_ne (hk5 e), ← List.getD_eq_getElem?_getD]
          exact hpg
        · exact hpg
      · show 1 ≤ ((putPage _ _ _ _).getD 5 dBk).nx
        rw [key]
        split
        · show 1 ≤ k.toNat + 1
          omega
        · exact hnx
      · show ((putPage _ _ _ _).getD 5 dBk).bad = false
        rw [key]
        split
        · exact hgd
        · exact hgd
  · rw [if_pos h1]
    exact h.more
theorem KeepI.erase (h : KeepI d m S s) (b : Int) (hb5 : b ≠ 5) : KeepI d (m + 1) (S.erase b s).1 (S.erase b s).2.1 := by
  unfold Ch.erase
  by_cases h1 : NM.may s.off S.live S.bs.length b 0 = 0
  · obtain ⟨ho, hlv, q1, q2, q3, q4⟩ := may_zero h1
    rw [if_neg (by simpa using h1)]
    have hb : b.toNat < S.bs.length := by omega
    have h5 : b.toNat ≠ 5 := by omega
    obtain ⟨f1, f2, f3⟩ := h.few
    have hl1 : (S.setNext b.toNat 8).bs.length = S.bs.length := by simp [Ch.setNext]
    have hl2 : ((S.setNext b.toNat 8).actE b.toNat s).1.bs.length = S.bs.length := by
      show (wipeB _ _ _).length = _
      rw [wipeB_length, hl1]
    have k1 : ((S.setNext b.toNat 8).actE b.toNat s).1.bs.getD 5 dBk = S.bs.getD 5 dBk := wipe_bk hb h5
    have k2 : (((S.setNext b.toNat 8).actE b.toNat s).1.setNext b.toNat 0).bs.getD 5 dBk = S.bs.getD 5 dBk := by
      rw [next_bk (by rw [hl2]; exact hb), if_neg h5, k1]
    have hl3 : (((S.setNext b.toNat 8).actE b.toNat s).1.setNext b.toNat 0).bs.length = S.bs.length := by
      rw [← hl2]; simp [Ch.setNext]
    simp only
    split
    · exact h.to (by rw [hl3, h.len]) (by rw [k2]; exact h.pg) (by rw [k2]; exact h.nx) (by rw [k2]; exact h.good) rfl rfl rfl ⟨by show S.dp ≤ m + 1; omega, by show S.de + 1 ≤ m + 1; omega, by show S.cnt + 1 ≤ m + 1; omega⟩ (NM.Pwr.act_fits h.fits)
    · exact h.to (by rw [hl2, h.len]) (by rw [k1]; exact h.pg) (by rw [k1]; exact h.nx) (by rw [k1]; exact h.good) rfl rfl rfl ⟨by show S.dp ≤ m + 1; omega, by show S.de + 1 ≤ m + 1; omega, by show S.cnt + 1 ≤ m + 1; omega⟩ (NM.Pwr.act_fits h.fits)
  · rw [if_pos h1]
    exact h.more
end
/-- the chip at a, its block 5 as told, at most m acts so far -/
def KP (w : World) (a : At) (d : List UInt8) (m : Nat) : Prop := ∃ S s, PChip w a S ∧ PPow w a.p s ∧ KeepI d m S s
section
variable {w w' : World} {a : At} {d : List UInt8} {m : Nat}
theorem KP.after (h : KP w a d m) (hb : Below w.heap.size w w') : KP w' a d m := by
  obtain ⟨S, s, h1, h2, h3⟩ := h
  exact ⟨S, s, h1.after hb, h2.after hb, h3⟩
theorem KP.cell0 (h : KP w a d m) : w.cell? ⟨a.c, 0, none⟩ = some (.pointer (some ⟨a.p, 0, none⟩)) := by
  obtain ⟨S, s, h1, _⟩ := h
  exact h1.cell.1
theorem KP.all_lt (h : KP w a d m) {j : Nat} (hj : a.all j) : j < w.heap.size := by
  obtain ⟨S, s, h1, h2, _⟩ := h
  rcases hj with hj | rfl
  · exact h1.own_lt j hj
  · exact h2.lt
theorem KP.more (h : KP w a d m) : KP w a d (m + 1) := by
  obtain ⟨S, s, h1, h2, h3⟩ := h
  exact ⟨S, s, h1, h2, h3.more⟩
theorem KeepI.few6 {S : Ch} {s : NM.Pwr} (h : KeepI d m S s) (hm : m ≤ 500) : S.few 1000000 := by
  obtain ⟨f1, f2, f3⟩ := h.few
  exact ⟨by omega, by omega, by omega⟩
theorem KP.program (h : KP w a d m) (hm : m ≤ 500) (b k : Int) {x : List UInt8} (hx : x.length = 258) :
    Calls Try.prog 24 #[.pointer (some ⟨a.c, 0, none⟩), .int .i64 b, .int .i64 k, .agg (cl x)] w fun e w' => ∃ r : Int, e = .returned (.int .i64 r) ∧ KP w' a d (m + 1) ∧ Chg w w' a.all := by
  obtain ⟨S, s, h1, h2, h3⟩ := h
  exact (program_any a S s b k x hx h3.fits (h3.few6 hm) w h1 h2).mono (fun e w' hh => ⟨_, hh.1, ⟨_, _, hh.2.1, hh.2.2.1, h3.program b k x⟩, hh.2.2.2⟩)
theorem KP.erase (h : KP w a d m) (hm : m ≤ 500) (b : Int) (hb : b ≠ 5) :
    Calls Try.prog 26 #[.pointer (some ⟨a.c, 0, none⟩), .int .i64 b] w fun e w' => ∃ r : Int, e = .returned (.int .i64 r) ∧ KP w' a d (m + 1) ∧ Chg w w' a.all := by
  obtain ⟨S, s, h1, h2, h3⟩ := h
  exact (erase_any a S s b h3.fits (h3.few6 hm) w h1 h2).mono (fun e w' hh => ⟨_, hh.1, ⟨_, _, hh.2.1, hh.2.2.1, h3.erase b hb⟩, hh.2.2.2⟩)
theorem PChip.pow {S : Ch} (h1 : PChip w a S) (hg : w.grownBy w' (some a.p)) : PChip w' a S := by
  refine h1.chg (T := fun j => j = a.p) (Chg.of_grown hg (fun k e => Option.some.inj e)) ?_
  intro j hj e
  subst e
  rcases hj with e | e | e | e
  · exact h1.pc e
  · exact h1.pg e
  · exact (h1.mps _ e).2.2 rfl
  · exact (h1.mes _ e).2.2 rfl
theorem KP.cut (h : KP w a d m) (after keep : Int) (hz : -9223372036854775808 ≤ after ∧ after < 9223372036854775808) :
    Calls Try.prog 27 #[.pointer (some ⟨a.p, 0, none⟩), .int .i64 after, .int .i64 keep] w fun e w' => e = .returned (.tuple #[]) ∧ KP w' a d (m + 1) ∧ Chg w w' a.all := by
  obtain ⟨S, s, h1, h2, h3⟩ := h
  have h4 := h3.more
  refine (cut_any a.p s after keep w h2).mono (fun e w' hh => ⟨hh.1, ⟨S, s.cut after keep, h1.pow hh.2.2, hh.2.1, ⟨h4.len, h4.pg, h4.nx, h4.good, h4.fp, h4.fe, h4.live, h4.few, ?_⟩⟩, Chg.of_grown hh.2.2 (fun k e => .inr (Option.some.inj e))⟩)
  unfold NM.Pwr.fits NM.Pwr.cut
  simp only
  split <;> omega
theorem KP.on (h : KP w a d m) (hm : m ≤ 500) :
    Calls Try.prog 28 #[.pointer (some ⟨a.p, 0, none⟩)] w fun e w' => e = .returned (.tuple #[]) ∧ KP w' a d (m + 1) ∧ (∃ (X : Bk) (kp : Int), X.pg.getD 0 [] = d ∧ C1 w' a 20 5 X 500 ⟨false, -1, kp⟩) ∧ Chg w w' a.all := by
  obtain ⟨S, s, h1, h2, h3⟩ := h
  have h4 := h3.more
  obtain ⟨f1, f2, f3⟩ := h3.few
  refine (on_any a.p s w h2).mono (fun e w' hh => ⟨hh.1, ⟨S, s.on, h1.pow hh.2.2, hh.2.1, ⟨h4.len, h4.pg, h4.nx, h4.good, h4.fp, h4.fe, h4.live, h4.few, ?_⟩⟩, ⟨S.bs.getD 5 dBk, s.keep, h3.pg, ⟨S, h1.pow hh.2.2, hh.2.1, ⟨⟨S.bs, ?_, h3.len⟩, by omega, h3.fp, h3.fe, h3.good, ⟨by omega, by omega, by omega⟩⟩, h3.live⟩⟩, Chg.of_grown hh.2.2 (fun k e => .inr (Option.some.inj e))⟩)
  · exact ⟨by show (-9223372036854775808 : Int) ≤ -1; omega, by show (-1 : Int) < 9223372036854775808; omega⟩
  · have hb : 5 < S.bs.length := by rw [h3.len]; omega
    rw [List.getD_eq_getElem?_getD, List.getElem?_eq_getElem hb, Option.getD_some, List.set_getElem_self]
end
theorem One.eraseOk {S : Ch} {N b n : Nat} {X : Bk} (h : One S N b X n) {s : NM.Pwr} (ho : s.off = false) (hl : S.live = true) (hc : s.act.2 = false) :
    ∃ S', S.erase (b : Int) s = (S', s.act.1, 0) ∧ S'.live = true ∧ One S' N b { X with nx := 0, pg := wipP 8 X.pg } (n + 1) := by
  have hm : NM.may s.off S.live (S.bs.length : Int) (b : Int) 0 = 0 := may_ok (k := 0) ho hl (by rw [h.len]; exact h.lt) (by omega)
  have e1 : (S.setNext b 8).bs = S.bs.set b (X.setNext 8) := by unfold Ch.setNext; rw [h.bk]
  have hb : b < S.bs.length := by rw [h.len]; exact h.lt
  have e2 : (S.setNext b 8).bs.getD b ⟨[], 0, false⟩ = X.setNext 8 := by
    rw [e1, List.getD_eq_getElem?_getD, List.getElem?_set_self hb, Option.getD_some]
  have ha : actN s.act.2 ((S.setNext b 8).fe (S.setNext b 8).de) ((S.setNext b 8).bs.getD b ⟨[], 0, false⟩).bad s.keep 8 0 = (8, 0) := by
    rw [e2, hc]
    show actN false (S.fe S.de) X.bad s.keep 8 0 = (8, 0)
    rw [h.fe, h.good]
    rfl
  have e3 : ((S.setNext b 8).actE b s).2 = 0 := by
    unfold Ch.actE
    rw [ha]
  have e4 : ((S.setNext b 8).actE b s).1.bs = S.bs.set b { X.setNext 8 with pg := wipP 8 X.pg } := by
    unfold Ch.actE wipeB
    simp only
    rw [ha, e2, e1, List.set_set]
    rfl
  refine ⟨((S.setNext b 8).actE b s).1.setNext b 0, ?_, hl, ?_⟩
  · unfold Ch.erase
    rw [if_neg (by rw [hm]; simp), Int.toNat_natCast, e3, if_pos rfl]
  · refine h.to ?_ rfl rfl h.good ?_
    · show ((S.setNext b 8).actE b s).1.bs.set b ((((S.setNext b 8).actE b s).1.bs.getD b ⟨[], 0, false⟩).setNext 0) = _
      rw [e4, List.getD_eq_getElem?_getD, List.getElem?_set_self hb, Option.getD_some, List.set_set]
      rfl
    · obtain ⟨f1, f2, f3⟩ := h.few
      exact ⟨by show S.dp ≤ n + 1; omega, by show S.de + 1 ≤ n + 1; omega, by show S.cnt + 1 ≤ n + 1; omega⟩
theorem C1.eraseOk {w : World} {a : At} {N b n : Nat} {X : Bk} {s : NM.Pwr} (h : C1 w a N b X n s) (ho : s.off = false) (hf : s.fits) (hn : n ≤ 1000) (hc : s.act.2 = false) {zb : Int} (e1 : zb = (b : Int)) :
    Calls Try.prog 26 #[.pointer (some ⟨a.c, 0, none⟩), .int .i64 zb] w fun e w' => e = .returned (.int .i64 0) ∧ C1 w' a N b { X with nx := 0, pg := wipP 8 X.pg } (n + 1) s.act.1 ∧ Chg w w' a.all := by
  subst e1
  obtain ⟨S, h1, h2, h3, hl⟩ := h
  obtain ⟨f1, f2, f3⟩ := h3.few
  have k1 := erase_any a S s b hf ⟨by omega, by omega, by omega⟩ w h1 h2
  obtain ⟨S', e, hl', h3'⟩ := h3.eraseOk ho hl hc
  rw [e] at k1
  exact k1.mono (fun e w' hh => ⟨hh.1, ⟨S', hh.2.1, hh.2.2.1, h3', hl'⟩, hh.2.2.2⟩)
/-- a written page kept: at the start -/
theorem KP.start {w : World} {a : At} {d : List UInt8} (h : C1 w a 20 5 (Bk.one d) 1 NM.Pwr.fresh) : KP w a d 1 := by
  obtain ⟨S, h1, h2, h3, hl⟩ := h
  have hk := h3.bk
  exact ⟨S, _, h1, h2, ⟨h3.len, by show (S.bs.getD 5 ⟨[], 0, false⟩).pg.getD 0 [] = d; rw [hk]; rfl, by show 1 ≤ (S.bs.getD 5 ⟨[], 0, false⟩).nx; rw [hk]; exact Nat.le_refl _, by show (S.bs.getD 5 ⟨[], 0, false⟩).bad = false; rw [hk]; rfl, h3.fp, h3.fe, hl, h3.few, fresh_fits⟩⟩
end Go.Proofs.Ytnclefdlmbkjmaa

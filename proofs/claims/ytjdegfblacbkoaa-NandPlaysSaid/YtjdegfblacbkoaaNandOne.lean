/- The program's chip as one of its blocks sees it: the contracts of the calls that speak of that block. Conditions at each: the power, the chip and the page as named; few acts so far. -/
import Derived.Test.YtjdegfblacbkoaaNandMake
import Derived.Test.YtjdegfblacbkoaaNandPage
namespace Go.Proofs.Ytjdegfblacbkoaa
open Go.RowKit
/-- there are N blocks, b is X; nothing is to fail; at most n acts so far -/
structure One (S : Ch) (N b : Nat) (X : Bk) (n : Nat) : Prop where
  at_ : ∃ Bs : List Bk, S.bs = Bs.set b X ∧ Bs.length = N
  lt : b < N
  fp : ∀ i, S.fp i = false
  fe : ∀ i, S.fe i = false
  good : X.bad = false
  few : S.few n
section
variable {S : Ch} {N b n : Nat} {X : Bk}
theorem One.len (h : One S N b X n) : S.bs.length = N := by
  obtain ⟨Bs, e, hl⟩ := h.at_
  rw [e, List.length_set, hl]
theorem One.bk (h : One S N b X n) : S.bs.getD b ⟨[], 0, false⟩ = X := by
  obtain ⟨Bs, e, hl⟩ := h.at_
  rw [e, List.getD_eq_getElem?_getD, List.getElem?_set_self (by rw [hl]; exact h.lt), Option.getD_some]
theorem One.to (h : One S N b X n) {S' : Ch} {Y : Bk} {m : Nat} (hb : S'.bs = S.bs.set b Y) (hp : S'.fp = S.fp) (he : S'.fe = S.fe) (hg : Y.bad = false) (hf : S'.few m) : One S' N b Y m := by
  obtain ⟨Bs, e, hl⟩ := h.at_
  refine ⟨⟨Bs, ?_, hl⟩, h.lt, by rw [hp]; exact h.fp, by rw [he]; exact h.fe, hg, hf⟩
  rw [hb, e, List.set_set]
theorem may_ok {off live : Bool} {M : Nat} (ho : off = false) (hl : live = true) {b k : Nat} (hb : b < M) (hk : k < 8) : NM.may off live (M : Int) (b : Int) (k : Int) = 0 := by
  unfold NM.may
  rw [if_neg (by simp [ho]), if_pos hl, if_neg (by omega)]
theorem One.prog (h : One S N b X n) {s : NM.Pwr} (ho : s.off = false) (hl : S.live = true) {k : Nat} (hk : k < 8) (hn : X.nx = k) (d : List UInt8) :
    ∃ S', S.program (b : Int) (k : Int) d s = (S', s.act.1, (actN s.act.2 false false s.keep 258 129).2) ∧ S'.live = true ∧ One S' N b ((X.setNext (k + 1)).setPage k (NM.wr (actN s.act.2 false false s.keep 258 129).1 (X.pg.getD k []) d)) (n + 1) := by
  have hm : NM.may s.off S.live (S.bs.length : Int) (b : Int) (k : Int) = 0 := may_ok ho hl (by rw [h.len]; exact h.lt) hk
  have hx : S.nextOf b = k := by unfold Ch.nextOf; rw [h.bk, hn]
  have e1 : (S.setNext b (k + 1)).bs = S.bs.set b (X.setNext (k + 1)) := by unfold Ch.setNext; rw [h.bk]
  have hb : b < S.bs.length := by rw [h.len]; exact h.lt
  have e2 : (S.setNext b (k + 1)).bs.getD b ⟨[], 0, false⟩ = X.setNext (k + 1) := by
    rw [e1, List.getD_eq_getElem?_getD, List.getElem?_set_self hb, Option.getD_some]
  refine ⟨((S.setNext b (k + 1)).actP b k d s).1, ?_, ?_, ?_⟩
  · unfold Ch.program
    rw [if_neg (by rw [hm]; simp), Int.toNat_natCast, Int.toNat_natCast, hx, if_neg (by simp)]
    show (_, _, _) = (_, _, _)
    have : ((S.setNext b (k + 1)).actP b k d s).2 = (actN s.act.2 false false s.keep 258 129).2 := by
      unfold Ch.actP
      rw [e2]
      show (actN s.act.2 (S.fp S.dp) X.bad s.keep 258 129).2 = _
      rw [h.fp, h.good]
    rw [this]
  · exact hl
  · refine h.to ?_ rfl rfl h.good ?_
    · unfold Ch.actP putPage pageOf
      simp only
      rw [e2, e1, List.set_set]
      show S.bs.set b ((X.setNext (k + 1)).setPage k (NM.wr (actN s.act.2 (S.fp S.dp) X.bad s.keep 258 129).1 (X.pg.getD k []) d)) = _
      rw [h.fp, h.good]
    · obtain ⟨f1, f2, f3⟩ := h.few
      exact ⟨by show S.dp + 1 ≤ n + 1; omega, by show S.de ≤ n + 1; omega, by show S.cnt + 1 ≤ n + 1; omega⟩
theorem One.order (h : One S N b X n) {s : NM.Pwr} (ho : s.off = false) (hl : S.live = true) {k : Nat} (hk : k < 8) (hn : X.nx ≠ k) (d : List UInt8) : S.program (b : Int) (k : Int) d s = (S, s, 32) := by
  have hm : NM.may s.off S.live (S.bs.length : Int) (b : Int) (k : Int) = 0 := may_ok ho hl (by rw [h.len]; exact h.lt) hk
  have hx : S.nextOf b = X.nx := by unfold Ch.nextOf; rw [h.bk]
  unfold Ch.program
  rw [if_neg (by rw [hm]; simp), Int.toNat_natCast, hx, if_pos (by omega)]
theorem One.erased (h : One S N b X n) {s : NM.Pwr} (ho : s.off = false) (hl : S.live = true) (hc : s.act.2 = true) :
    ∃ S', S.erase (b : Int) s = (S', s.act.1, 30) ∧ S'.live = true ∧ One S' N b { X with nx := 8, pg := wipP (min (max s.keep 0) 8).toNat X.pg } (n + 1) := by
  have hm : NM.may s.off S.live (S.bs.length : Int) (b : Int) 0 = 0 := may_ok (k := 0) ho hl (by rw [h.len]; exact h.lt) (by omega)
  have e1 : (S.setNext b 8).bs = S.bs.set b (X.setNext 8) := by unfold Ch.setNext; rw [h.bk]
  have hb : b < S.bs.length := by rw [h.len]; exact h.lt
  have e2 : (S.setNext b 8).bs.getD b ⟨[], 0, false⟩ = X.setNext 8 := by
    rw [e1, List.getD_eq_getElem?_getD, List.getElem?_set_self hb, Option.getD_some]
  have e3 : ((S.setNext b 8).actE b s).2 = 30 := by
    unfold Ch.actE actN
    rw [if_pos hc]
  refine ⟨((S.setNext b 8).actE b s).1, ?_, hl, ?_⟩
  · unfold Ch.erase
    rw [if_neg (by rw [hm]; simp), Int.toNat_natCast, e3, if_neg (by decide)]
  · refine h.to ?_ rfl rfl h.good ?_
    · unfold Ch.actE wipeB actN
      simp only
      rw [e2, e1, List.set_set, if_pos hc]
      rfl
    · obtain ⟨f1, f2, f3⟩ := h.few
      exact ⟨by show S.dp ≤ n + 1; omega, by show S.de + 1 ≤ n + 1; omega, by show S.cnt + 1 ≤ n + 1; omega⟩
theorem One.page (h : One S N b X n) (k : Nat) : S.readPage 0 (b : Int) (k : Int) = X.pg.getD k [] := by
  unfold Ch.readPage pageOf
  rw [if_pos rfl, Int.toNat_natCast, Int.toNat_natCast, h.bk]
theorem One.blank {N b : Nat} (hb : b < N) : One (Ch.blank N) N b Bk.blank 0 :=
  ⟨⟨List.replicate N Bk.blank, by
    unfold Ch.blank
    apply List.ext_getElem?
    intro i
    rw [List.getElem?_set, List.getElem?_replicate]
    by_cases h : b = i
    · subst h; simp [hb]
    · simp [h], List.length_replicate⟩, hb, fun _ => rfl, fun _ => rfl, rfl, ⟨Nat.le_refl _, Nat.le_refl _, Nat.le_refl _⟩⟩
end
/-- the chip at a, as its block b sees it, and its power -/
def C1 (w : World) (a : At) (N b : Nat) (X : Bk) (n : Nat) (s : NM.Pwr) : Prop := ∃ S, PChip w a S ∧ PPow w a.p s ∧ One S N b X n ∧ S.live = true
/-- what a call on the chip may change -/
def At.all (a : At) (j : Nat) : Prop := a.own j ∨ j = a.p
section
variable {w w' : World} {a : At} {N b n : Nat} {X : Bk} {s : NM.Pwr}
theorem C1.after (h : C1 w a N b X n s) (hb : Below w.heap.size w w') : C1 w' a N b X n s := by
  obtain ⟨S, h1, h2, h3⟩ := h
  exact ⟨S, h1.after hb, h2.after hb, h3⟩
theorem C1.all_lt (h : C1 w a N b X n s) {j : Nat} (hj : a.all j) : j < w.heap.size := by
  obtain ⟨S, h1, h2, _⟩ := h
  rcases hj with hj | rfl
  · exact h1.own_lt j hj
  · exact h2.lt
theorem C1.cell0 (h : C1 w a N b X n s) : w.cell? ⟨a.c, 0, none⟩ = some (.pointer (some ⟨a.p, 0, none⟩)) := by
  obtain ⟨S, h1, _⟩ := h
  exact h1.cell.1
theorem C1.order (h : C1 w a N b X n s) (ho : s.off = false) (hf : s.fits) (hn : n ≤ 1000) {k : Nat} (hk : k < 8) (hx : X.nx ≠ k) {d : List UInt8} (hd : d.length = 258) {zb zk : Int} (e1 : zb = (b : Int)) (e2 : zk = (k : Int)) :
    Calls Try.prog 21 #[.pointer (some ⟨a.c, 0, none⟩), .int .i64 zb, .int .i64 zk, .agg (cl d)] w fun e w' => e = .returned (.int .i64 32) ∧ C1 w' a N b X n s ∧ Chg w w' a.all := by
  subst e1 e2
  obtain ⟨S, h1, h2, h3, hl⟩ := h
  obtain ⟨f1, f2, f3⟩ := h3.few
  have k1 := program_any a S s b k d hd hf ⟨by omega, by omega, by omega⟩ w h1 h2
  rw [h3.order ho hl hk hx d] at k1
  exact k1.mono (fun e w' hh => ⟨hh.1, ⟨S, hh.2.1, hh.2.2.1, h3, hl⟩, hh.2.2.2⟩)
theorem C1.prog (h : C1 w a N b X n s) (ho : s.off = false) (hf : s.fits) (hn : n ≤ 1000) {k : Nat} (hk : k < 8) (hx : X.nx = k) {d : List UInt8} (hd : d.length = 258) {zb zk : Int} (e1 : zb = (b : Int)) (e2 : zk = (k : Int)) {z : Int} {m : Nat} (hz : actN s.act.2 false false s.keep 258 129 = (m, z)) :
    Calls Try.prog 21 #[.pointer (some ⟨a.c, 0, none⟩), .int .i64 zb, .int .i64 zk, .agg (cl d)] w fun e w' => e = .returned (.int .i64 z) ∧ C1 w' a N b ((X.setNext (k + 1)).setPage k (NM.wr m (X.pg.getD k []) d)) (n + 1) s.act.1 ∧ Chg w w' a.all := by
  subst e1 e2
  obtain ⟨S, h1, h2, h3, hl⟩ := h
  obtain ⟨f1, f2, f3⟩ := h3.few
  have k1 := program_any a S s b k d hd hf ⟨by omega, by omega, by omega⟩ w h1 h2
  obtain ⟨S', e, hl', h3'⟩ := h3.prog ho hl hk hx d
  rw [e, hz] at k1
  rw [hz] at h3'
  exact k1.mono (fun e w' hh => ⟨hh.1, ⟨S', hh.2.1, hh.2.2.1, h3', hl'⟩, hh.2.2.2⟩)
theorem C1.erased (h : C1 w a N b X n s) (ho : s.off = false) (hf : s.fits) (hn : n ≤ 1000) (hc : s.act.2 = true) {zb : Int} (e1 : zb = (b : Int)) :
    Calls Try.prog 27 #[.pointer (some ⟨a.c, 0, none⟩), .int .i64 zb] w fun e w' => e = .returned (.int .i64 30) ∧ C1 w' a N b { X with nx := 8, pg := wipP (min (max s.keep 0) 8).toNat X.pg } (n + 1) s.act.1 ∧ Chg w w' a.all := by
  subst e1
  obtain ⟨S, h1, h2, h3, hl⟩ := h
  obtain ⟨f1, f2, f3⟩ := h3.few
  have k1 := erase_any a S s b hf ⟨by omega, by omega, by omega⟩ w h1 h2
  obtain ⟨S', e, hl', h3'⟩ := h3.erased ho hl hc
  rw [e] at k1
  exact k1.mono (fun e w' hh => ⟨hh.1, ⟨S', hh.2.1, hh.2.2.1, h3', hl'⟩, hh.2.2.2⟩)
theorem C1.read (h : C1 w a N b X n s) (ho : s.off = false) {k : Nat} (hk : k < 8) {zb zk : Int} (e1 : zb = (b : Int)) (e2 : zk = (k : Int)) :
    Calls Try.prog 17 #[.pointer (some ⟨a.c, 0, none⟩), .int .i64 zb, .int .i64 zk] w fun e w' => e = .returned (.tuple #[.agg (cl (X.pg.getD k [])), .int .i64 0]) ∧ C1 w' a N b X n s ∧ Below w.heap.size w w' := by
  subst e1 e2
  obtain ⟨S, h1, h2, h3, hl⟩ := h
  have k1 := read_any a S s b k w h1 h2
  have hm : NM.may s.off S.live (S.bs.length : Int) (b : Int) (k : Int) = 0 := may_ok ho hl (by rw [h3.len]; exact h3.lt) hk
  rw [hm, h3.page] at k1
  exact k1.mono (fun e w' hh => ⟨hh.1, ⟨S, h1.after hh.2, h2.after hh.2, h3, hl⟩, hh.2⟩)
theorem C1.pow (h : C1 w a N b X n s) {s' : NM.Pwr} (hg : w.grownBy w' (some a.p)) (hp : PPow w' a.p s') : C1 w' a N b X n s' := by
  obtain ⟨S, h1, h2, h3⟩ := h
  refine ⟨S, h1.chg (T := fun j => j = a.p) (Chg.of_grown hg (fun k e => Option.some.inj e)) ?_, hp, h3⟩
  intro j hj e
  subst e
  rcases hj with e | e | e | e
  · exact h1.pc e
  · exact h1.pg e
  · exact (h1.mps _ e).2.2 rfl
  · exact (h1.mes _ e).2.2 rfl
theorem C1.cut (h : C1 w a N b X n s) (after keep : Int) :
    Calls Try.prog 29 #[.pointer (some ⟨a.p, 0, none⟩), .int .i64 after, .int .i64 keep] w fun e w' => e = .returned (.tuple #[]) ∧ C1 w' a N b X n (s.cut after keep) ∧ Chg w w' a.all := by
  have h' := h
  obtain ⟨S, h1, h2, h3⟩ := h
  exact (cut_any a.p s after keep w h2).mono (fun e w' hh => ⟨hh.1, h'.pow hh.2.2 hh.2.1, Chg.of_grown hh.2.2 (fun k e => .inr (Option.some.inj e))⟩)
theorem C1.on (h : C1 w a N b X n s) :
    Calls Try.prog 31 #[.pointer (some ⟨a.p, 0, none⟩)] w fun e w' => e = .returned (.tuple #[]) ∧ C1 w' a N b X n s.on ∧ Chg w w' a.all := by
  have h' := h
  obtain ⟨S, h1, h2, h3⟩ := h
  exact (on_any a.p s w h2).mono (fun e w' hh => ⟨hh.1, h'.pow hh.2.2 hh.2.1, Chg.of_grown hh.2.2 (fun k e => .inr (Option.some.inj e))⟩)
end
theorem C1.new (N b p : Nat) (hN : 16 ≤ N ∧ N ≤ 40) (hb : b < N) (s : NM.Pwr) (w : World) (hp : PPow w p s) {z : Int} (hz : z = (N : Int)) :
    Calls Try.prog 9 #[.pointer (some ⟨p, 0, none⟩), .int .i64 z, .slice none 0 0] w fun e w' =>
      e = .returned (.tuple #[.pointer (some ⟨w.heap.size + 1, 0, none⟩), .int .i64 0]) ∧ C1 w' ⟨w.heap.size + 1, w.heap.size, p, none, none⟩ N b Bk.blank 0 s ∧ Below w.heap.size w w' := by
  subst hz
  exact (new_any N hN p s w hp).mono (fun e w' hh => ⟨hh.1, ⟨Ch.blank N, hh.2.1, hp.after hh.2.2, One.blank hb, rfl⟩, hh.2.2⟩)
end Go.Proofs.Ytjdegfblacbkoaa

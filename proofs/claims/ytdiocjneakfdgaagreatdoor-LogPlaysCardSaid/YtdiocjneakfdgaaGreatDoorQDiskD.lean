/- Several texts of the proof, joined: what each has is said at its head. -/
import Derived.Test.YtdiocjneakfdgaaGreatDoorQDiskC
import Derived.Test.YtdiocjneakfdgaaGreatDoorQBbtS
import Derived.Test.YtdiocjneakfdgaaGreatDoorQNandFault
/- What the laws of a disk begin with: a chip that was made a disk, pages for it, acts that are to fail. Condition: the table of the check sum holds its sixteen numbers. -/
namespace Go.Proofs.YtdiocjneakfdgaaGreatDoor
open Go.RowKit
/-- the layout of a chip without bad blocks -/
def layN (N : Nat) : Lay := ⟨N, List.range' 2 (N - 6) ++ List.replicate (40 - N) 0, List.replicate 40 false⟩
theorem layN_at {N y : Nat} (hy : y < N - 6) : (layN N).at_.getD y 0 = y + 2 := by
  show (List.range' 2 (N - 6) ++ List.replicate (40 - N) 0).getD y 0 = _
  rw [List.getD_eq_getElem?_getD, List.getElem?_append_left (by rw [List.length_range']; exact hy), List.getElem?_range' hy, Option.getD_some]
  omega
theorem laid_fine {N : Nat} (hN : 16 ≤ N) {S : Ch} {l : Lay} (hc : Calm S NM.Pwr.fresh) (hK : Keeps S 1 1 l) (hl : S.bs.length = N) (hr : ∀ b, 2 ≤ b → S.bs.getD b ⟨[], 0, false⟩ = (Ch.marked N []).bs.getD b ⟨[], 0, false⟩) (hg : l.good) (hn : l.n = N) :
    Fine S N 0 0 ∧ Tabs S N l 1 ∧ ∀ b, 2 ≤ b → b < N → S.bk b = Bk.blank := by
  have hb : ∀ b, 2 ≤ b → b < N → S.bk b = Bk.blank := fun b h1 h2 => by
    show S.bs.getD b _ = _
    rw [hr b h1, marked_blank h2 (by simp)]
  refine ⟨⟨hc.live, hl, hN, fun b => ?_, fun b h2 => ?_, ⟨[], Nat.le_refl _, fun i _ h => by rw [hc.fp] at h; cases h⟩, ⟨[], Nat.le_refl _, fun i _ h => by rw [hc.fe] at h; cases h⟩⟩, ⟨1, 0, 1, Nat.le_refl _, by omega, by omega, ?_, fun i h1 h2 => ?_, fun i h1 => .inl ?_⟩, hb⟩
  · rcases Nat.lt_or_ge b 2 with c | c
    · exact hc.good b c
    · rcases Nat.lt_or_ge b N with c2 | c2
      · rw [hb b c c2]; rfl
      · show (S.bs.getD b ⟨[], 0, false⟩).bad = false
        rw [List.getD_eq_getElem?_getD, List.getElem?_eq_none (by omega)]
        rfl
  · rcases Nat.lt_or_ge b 2 with c | c
    · exact hc.oks b c
    · rw [hb b c h2]; rfl
  · show tableOf N ((S.bs.getD 1 ⟨[], 0, false⟩).pg.getD 0 []) = _
    rw [hK.here]
    exact tableOf_tpage hg hn (by omega)
  · show tableOf N ((S.bs.getD 1 ⟨[], 0, false⟩).pg.getD i []) = none
    rw [hK.here]
    show tableOf N ((tpage 1 l :: List.replicate 7 NM.ff).getD i []) = none
    rw [page_first h1, if_neg h2]
    exact tableOf_ff
  · show tableOf N ((S.bs.getD 0 ⟨[], 0, false⟩).pg.getD i []) = none
    rw [show S.bs.getD 0 ⟨[], 0, false⟩ = Bk.blank from hK.there, ff_pages h1]
    exact tableOf_ff
section
variable {w w' : World} {d t : Nat} {a : At} {X : DS} {N f e K : Nat}
theorem At.told_all {pr : Bool} {b j : Nat} (h : (a.told pr b).all j) : a.all j ∨ j = b := by
  unfold At.told at h
  cases pr with
  | true =>
    rcases h with (h | h | h | h) | h
    · exact .inl (.inl (.inl h))
    · exact .inl (.inl (.inr (.inl h)))
    · exact .inr (Option.some.inj h).symm
    · exact .inl (.inl (.inr (.inr (.inr h))))
    · exact .inl (.inr h)
  | false =>
    rcases h with (h | h | h | h) | h
    · exact .inl (.inl (.inl h))
    · exact .inl (.inl (.inr (.inl h)))
    · exact .inl (.inl (.inr (.inr (.inl h))))
    · exact .inr (Option.some.inj h).symm
    · exact .inl (.inr h)
theorem At.told_c {pr : Bool} {b : Nat} : (a.told pr b).c = a.c ∧ (a.told pr b).p = a.p := by unfold At.told; cases pr <;> exact ⟨rfl, rfl⟩
theorem left_told (zs : List Int) : Left (fun i => decide (i ∈ zs)) 0 zs.length := ⟨zs.map Int.toNat, by simp, fun i _ h => List.mem_map.2 ⟨(i : Int), of_decide_eq_true h, Int.toNat_natCast i⟩⟩
theorem Fine.told {S : Ch} (h : Fine S N f e) (pr : Bool) (zs : List Int) : Fine (S.told pr zs) N (if pr then zs.length else f) (if pr then e else zs.length) := by
  unfold Ch.told
  cases pr with
  | true => exact ⟨h.live, h.len, h.n1, h.bad, h.oks, left_told zs, h.fe⟩
  | false => exact ⟨h.live, h.len, h.n1, h.bad, h.oks, h.fp, left_told zs⟩
theorem told_bs {S : Ch} {pr : Bool} {zs : List Int} : (S.told pr zs).bs = S.bs := by unfold Ch.told; cases pr <;> rfl
/-- Fail, for a disk that need not have room for what is to fail -/
theorem Disk1.failD (h : Disk1 w d t a X N f e K) (pr : Bool) (zs : List Int) (v : Value) (hlen : zs.length ≤ 900) (hv : Nums w w.heap.size .i64 v zs) :
    Calls Tryz.prog 7 #[.pointer (some ⟨a.c, 0, none⟩), .bool pr, v] w fun er w' => er = .returned (.tuple #[]) ∧ ∃ b, w.heap.size ≤ b ∧ Dk w' d t (a.told pr b) ⟨X.S.told pr zs, X.s, X.l, X.u⟩ ∧ (X.S.told pr zs).few (200 * K) ∧ Chg w w' (fun j => j = a.c) := by
  refine (fail_any a X.S pr zs v hlen w h.dk.dev.pw.lt h.dk.dev.pc hv).mono ?_
  rintro er w' ⟨b, rfl, hb, hP, hc⟩
  have hd := h.dk
  have hac : ¬ a.all t := hd.tb.na
  have hcc : a.all a.c := .inl (.inl rfl)
  have hpc : a.p ≠ a.c := hd.dev.pc.pc
  have hn : 0 ≠ a.c := fun q => hd.dev.far _ hcc q.symm
  have D : Dev w' (a.told pr b) (X.S.told pr zs) X.s := ⟨hP, by rw [At.told_c.2]; exact hd.dev.pw.chg hc hpc, hd.dev.tab.chg hc hn, fun k hk => by
    rcases At.told_all hk with q | rfl
    · exact hd.dev.far k q
    · intro q; have := hd.dev.tab.lt; omega, hd.dev.fits⟩
  have T : Tb w' t (a.told pr b) X.l := ⟨by rw [At.told_c.1]; exact hd.tb.blk.chg hc (fun q => hac (by rw [show t = a.c from q]; exact hcc)), hd.tb.len, fun q => by
    rcases At.told_all q with q | rfl
    · exact hac q
    · have := hd.tb.blk.lt; omega⟩
  refine ⟨rfl, b, hb, ⟨by rw [At.told_c.1]; exact hd.blk.chg hc (fun q => hd.da (by rw [show d = a.c from q]; exact hcc)), T, D, hd.dt, fun q => ?_, hd.good⟩, ?_, hc⟩
  · rcases At.told_all q with q | rfl
    · exact hd.da q
    · have := hd.blk.lt; omega
  · have hf := h.few
    unfold Ch.told
    cases pr with
    | true => exact ⟨Nat.zero_le _, hf.2.1, hf.2.2⟩
    | false => exact ⟨hf.1, Nat.zero_le _, hf.2.2⟩
theorem Disk1.fail (h : Disk1 w d t a X N f e K) (pr : Bool) (zs : List Int) (v : Value) (hlen : zs.length ≤ 900) (hv : Nums w w.heap.size .i64 v zs) (hroom : X.l.losses + (if pr then zs.length else f) + (if pr then e else zs.length) ≤ 4) :
    Calls Tryz.prog 7 #[.pointer (some ⟨a.c, 0, none⟩), .bool pr, v] w fun er w' => er = .returned (.tuple #[]) ∧ ∃ b, w.heap.size ≤ b ∧ Disk1 w' d t (a.told pr b) ⟨X.S.told pr zs, X.s, X.l, X.u⟩ N (if pr then zs.length else f) (if pr then e else zs.length) K ∧ Chg w w' (fun j => j = a.c) := by
  refine (h.failD pr zs v hlen hv).mono ?_
  rintro er w' ⟨rfl, b, hb, D, hf, hc⟩
  exact ⟨rfl, b, hb, ⟨D, ⟨h.ok.fine.told pr zs, h.ok.sz, h.ok.n2, h.ok.good, h.ok.tab.same (fun c _ => by unfold Ch.bk; rw [told_bs]), hroom⟩, h.on, h.last, h.u, hf⟩, hc⟩
/-- what Open finds on the chip of a disk in order -/
theorem DOk.look (h : DOk X N f e K) (ho : X.s.off = false) : X.S.lookE X.s = 0 ∧ (keptOf (X.S.lookK X.s)).lay = X.l := by
  obtain ⟨o, j, k, _, hT⟩ := h.tab
  obtain ⟨pg, hlk⟩ := hT.look h.fine.len
  have hn1 := h.fine.n1
  have hm : X.S.mayE X.s = 0 := h.fine.may ho (b := 0) (k := 0) (by omega) (by omega)
  unfold Ch.lookE Ch.lookK
  rw [if_pos hm, if_pos hm, hlk]
  exact ⟨rfl, rfl⟩
theorem dopen_any (hD : Dev w a X.S X.s) (h : DOk X N f e K) (ho : X.s.off = false) : Calls Tryz.prog 32 #[.pointer (some ⟨a.c, 0, none⟩)] w fun er w' => ∃ d t, w.heap.size ≤ t ∧ w.heap.size ≤ d ∧ er = .returned (.tuple #[.pointer (some ⟨d, 0, none⟩), .int .i64 0]) ∧ Dk w' d t a ⟨X.S, X.s, X.l, false⟩ ∧ Below w.heap.size w w' := by
  obtain ⟨h1, h2⟩ := h.look ho
  have k1 := dopen_some hD h1 (by rw [h2]; exact h.good)
  rw [h2] at k1
  exact k1
end
/-- the page of a law: of a byte and a byte of a number -/
def lpg (b k : UInt8) : List UInt8 := FM.page (UInt8.ofNat (1 + b.toNat % 200)) [b, k, b ^^^ 85]
end Go.Proofs.YtdiocjneakfdgaaGreatDoor

/- The laws' own calls: a disk is laid, a page is made. Condition: the table of the check sum holds its sixteen numbers. -/
namespace Go.Proofs.YtdiocjneakfdgaaGreatDoor
open Go.RowKit
theorem fresh_markedN {N : Nat} (hN : 16 ≤ N ∧ N ≤ 40) {l : Lay} (h : (Ch.marked N []).fresh = some l) : l.good ∧ l.n = N := by
  have hl : (Ch.marked N []).bs.length = N := markB_length N []
  unfold Ch.fresh at h
  rw [hl] at h
  obtain ⟨h1, h2, _⟩ := fresh_good h hN.1 hN.2
  exact ⟨h1, h2⟩
/-- a disk that was laid for a law -/
structure Begun (w w' : World) (d t : Nat) (a : At) (X : DS) (N : Nat) : Prop where
  one : Disk1 w' d t a X N 0 0 1
  lay : X.l = layN N
  blank : ∀ y, y < N - 6 → Has (X.blk y) []
  far : ∀ j, a.disk t d j → w.heap.size ≤ j
  below : Below w.heap.size w w'
  pwr : X.s = NM.Pwr.fresh
set_option maxRecDepth 100000 in
set_option maxHeartbeats 8000000 in
/-- a chip is made, and made a disk: as a contract of Format behind New -/
theorem begin_any {w w1 : World} {a : At} {N : Nat} (hN : 16 ≤ N ∧ N ≤ 40) (hf : (Ch.marked N []).fresh = some (layN N)) (h0 : (layN N).losses = 0) (hD : Dev w1 a (Ch.marked N []) NM.Pwr.fresh) (hb : Below w.heap.size w w1) (ha : a.behind w.heap.size) :
    Calls Tryz.prog 20 #[.pointer (some ⟨a.c, 0, none⟩)] w1 fun er w' => ∃ d t X, er = .returned (.tuple #[.pointer (some ⟨d, 0, none⟩), .int .i64 0]) ∧ Begun w w' d t a X N := by
  obtain ⟨hg, hn⟩ := fresh_markedN hN hf
  obtain ⟨S', ek, hc, hK, hl, hr⟩ := (marked_calm (N := N) (zs := []) hN.1 (by simp) (by simp)).first (marked_blank (b := 0) (by omega) (by simp)) (marked_blank (b := 1) (by omega) (by simp)) hg.ok
  have hlN : S'.bs.length = N := hl.trans (markB_length N [])
  obtain ⟨q1, q2, q3⟩ := laid_fine hN.1 hc hK hlN hr hg hn
  have hfw := few_keep (Ch.marked N []) NM.Pwr.fresh (layN N) 0 (marked_few _ _ _)
  have k1 := dformat_main (layN N) hD (marked_may hN.1 _) hf (marked_few _ _ _) hg (by rw [ek])
  rw [ek] at k1 hfw
  refine k1.mono ?_
  rintro er w' ⟨d, t, h1, h2, rfl, D, c⟩
  have hbb : Below w.heap.size w w' := Below.chgAll hb c ha (Nat.le_refl _)
  refine ⟨d, t, ⟨S', NM.Pwr.fresh, layN N, false⟩, rfl, ⟨D, ⟨q1, hn, hN.2, hg, q2, by show (layN N).losses + 0 + 0 ≤ 4; omega⟩, rfl, by show (-1 : Int) < 0; omega, rfl, few_le (by omega) hfw⟩, rfl, fun y hy => ?_, fun j hj => ?_, hbb, rfl⟩
  · have e : (DS.mk S' NM.Pwr.fresh (layN N) false).blk y = S'.bk ((layN N).at_.getD y 0) := rfl
    rw [e, layN_at hy, q3 _ (by omega) (by omega)]
    exact Has.blank
  · rcases hj with hj | rfl | rfl
    · exact ha j hj
    · exact Nat.le_trans hb.size h1
    · exact Nat.le_trans hb.size h2
end Go.Proofs.YtdiocjneakfdgaaGreatDoor

/- The document's example for a disk, as the laws begin: it answers true. Condition: the table of the check sum holds its sixteen numbers. -/
namespace Go.Proofs.YtdiocjneakfdgaaGreatDoor
open Go.RowKit
/-- the first pages of a law -/
def lpgs (b : UInt8) (j : Nat) : List (List UInt8) := (List.range j).map fun i => lpg b (UInt8.ofNat i)
end Go.Proofs.YtdiocjneakfdgaaGreatDoor


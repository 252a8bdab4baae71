/- Several texts of the proof, joined: what each has is said at its head. -/
import Derived.Test.YtjagonoicaelmaaGreatDoorQDiskC
import Derived.Test.YtjagonoicaelmaaGreatDoorQBbtS
import Derived.Test.YtjagonoicaelmaaGreatDoorQNandFault
/- What the laws of a disk begin with: a chip that was made a disk, pages for it, acts that are to fail. Condition: the table of the check sum holds its sixteen numbers. -/
namespace Go.Proofs.YtjagonoicaelmaaGreatDoor
open Go.RowKit
/-- the layout of a chip without bad blocks -/
def layN (N : Nat) : Lay := ⟨N, List.range' 2 (N - 6) ++ List.replicate (40 - N) 0, List.replicate 40 false⟩
theorem layN_at {N y : Nat} (hy : y < N - 6) : (layN N).at_.getD y 0 = y + 2 := by
  show (List.range' 2 (N - 6) ++ List.replicate (40 - N) 0).getD y 0 = _
  rw [List.getD_eq_getElem?_getD, List.getElem?_append_left (by rw [List.length_range']; exact hy), List.getElem?_range' hy, Option.getD_some]
  omega
theorem laid_fine {N : Nat} (hN : 16 ≤ N) {S : Ch} {l : Lay} (hc : Calm S NM.Pwr.fresh) (hK : Keeps S 1 1 l) (hl : S.bs.length = N) (hr : ∀ b, 2 ≤ b → S.bs.getD b ⟨[], 0, false⟩ = (Ch.marked N []).bs.getD b ⟨[], 0, false⟩) (hg : l.good) (hn : l.n = N) :
    Fine S N 0 0 ∧ Tabs S N l 1 ∧ ∀ b, 2 ≤ b → b < N → S.bk b = Bk.blank := by
  have hb : ∀ b, 2 ≤ b → b < N → S.bk b = Bk.blank := fun b h1 h2 => by
    show S.bs.getD b _ = _
    rw [hr b h1, marked_blank h2 (by simp)]
  refine ⟨⟨hc.live, hl, hN, fun b => ?_, fun b h2 => ?_, ⟨[], Nat.le_refl _, fun i _ h => by rw [hc.fp] at h; cases h⟩, ⟨[], Nat.le_refl _, fun i _ h => by rw [hc.fe] at h; cases h⟩⟩, ⟨1, 0, 1, Nat.le_refl _, by omega, by omega, ?_, fun i h1 h2 => ?_, fun i h1 => .inl ?_⟩, hb⟩
  · rcases Nat.lt_or_ge b 2 with c | c
    · exact hc.good b c
    · rcases Nat.lt_or_ge b N with c2 | c2
      · rw [hb b c c2]; rfl
      · show (S.bs.getD b ⟨[], 0, false⟩).bad = false
        rw [List.getD_eq_getElem?_getD, List.getElem?_eq_none (by omega)]
        rfl
  · rcases Nat.lt_or_ge b 2 with c | c
    · exact hc.oks b c
    · rw [hb b c h2]; rfl
  · show tableOf N ((S.bs.getD 1 ⟨[], 0, false⟩).pg.getD 0 []) = _
    rw [hK.here]
    exact tableOf_tpage hg hn (by omega)
  · show tableOf N ((S.bs.getD 1 ⟨[], 0, false⟩).pg.getD i []) = none
    rw [hK.here]
    show tableOf N ((tpage 1 l :: List.replicate 7 NM.ff).getD i []) = none
    rw [page_first h1, if_neg h2]
    exact tableOf_ff
  · show tableOf N ((S.bs.getD 0 ⟨[], 0, false⟩).pg.getD i []) = none
    rw [show S.bs.getD 0 ⟨[], 0, false⟩ = Bk.blank from hK.there, ff_pages h1]
    exact tableOf_ff
section
variable {w w' : World} {d t : Nat} {a : At} {X : DS} {N f e K : Nat}
theorem At.told_all {pr : Bool} {b j : Nat} (h : (a.told pr b).all j) : a.all j ∨ j = b := by
  unfold At.told at h
  cases pr with
  | true =>
    rcases h with (h | h | h | h) | h
    · exact .inl (.inl (.inl h))
    · exact .inl (.inl (.inr (.inl h)))
    · exact .inr (Option.some.inj h).symm
    · exact .inl (.inl (.inr (.inr (.inr h))))
    · exact .inl (.inr h)
  | false =>
    rcases h with (h | h | h | h) | h
    · exact .inl (.inl (.inl h))
    · exact .inl (.inl (.inr (.inl h)))
    · exact .inl (.inl (.inr (.inr (.inl h))))
    · exact .inr (Option.some.inj h).symm
    · exact .inl (.inr h)
theorem At.told_c {pr : Bool} {b : Nat} : (a.told pr b).c = a.c ∧ (a.told pr b).p = a.p := by unfold At.told; cases pr <;> exact ⟨rfl, rfl⟩
theorem left_told (zs : List Int) : Left (fun i => decide (i ∈ zs)) 0 zs.length := ⟨zs.map Int.toNat, by simp, fun i _ h => List.mem_map.2 ⟨(i : Int), of_decide_eq_true h, Int.toNat_natCast i⟩⟩
theorem Fine.told {S : Ch} (h : Fine S N f e) (pr : Bool) (zs : List Int) : Fine (S.told pr zs) N (if pr then zs.length else f) (if pr then e else zs.length) := by
  unfold Ch.told
  cases pr with
  | true => exact ⟨h.live, h.len, h.n1, h.bad, h.oks, left_told zs, h.fe⟩
  | false => exact ⟨h.live, h.len, h.n1, h.bad, h.oks, h.fp, left_told zs⟩
theorem told_bs {S : Ch} {pr : Bool} {zs : List Int} : (S.told pr zs).bs = S.bs := by unfold Ch.told; cases pr <;> rfl
/-- Fail, for a disk that need not have room for what is to fail -/
theorem Disk1.failD (h : Disk1 w d t a X N f e K) (pr : Bool) (zs : List Int) (v : Value) (hlen : zs.length ≤ 900) (hv : Nums w w.heap.size .i64 v zs) :
    Calls Tryz.prog 12 #[.pointer (some ⟨a.c, 0, none⟩), .bool pr, v] w fun er w' => er = .returned (.tuple #[]) ∧ ∃ b, w.heap.size ≤ b ∧ Dk w' d t (a.told pr b) ⟨X.S.told pr zs, X.s, X.l, X.u⟩ ∧ (X.S.told pr zs).few (200 * K) ∧ Chg w w' (fun j => j = a.c) := by
  refine (fail_any a X.S pr zs v hlen w h.dk.dev.pw.lt h.dk.dev.pc hv).mono ?_
  rintro er w' ⟨b, rfl, hb, hP, hc⟩
  have hd := h.dk
  have hac : ¬ a.all t := hd.tb.na
  have hcc : a.all a.c := .inl (.inl rfl)
  have hpc : a.p ≠ a.c := hd.dev.pc.pc
  have hn : 0 ≠ a.c := fun q => hd.dev.far _ hcc q.symm
  have D : Dev w' (a.told pr b) (X.S.told pr zs) X.s := ⟨hP, by rw [At.told_c.2]; exact hd.dev.pw.chg hc hpc, hd.dev.tab.chg hc hn, fun k hk => by
    rcases At.told_all hk with q | rfl
    · exact hd.dev.far k q
    · intro q; have := hd.dev.tab.lt; omega, hd.dev.fits⟩
  have T : Tb w' t (a.told pr b) X.l := ⟨by rw [At.told_c.1]; exact hd.tb.blk.chg hc (fun q => hac (by rw [show t = a.c from q]; exact hcc)), hd.tb.len, fun q => by
    rcases At.told_all q with q | rfl
    · exact hac q
    · have := hd.tb.blk.lt; omega⟩
  refine ⟨rfl, b, hb, ⟨by rw [At.told_c.1]; exact hd.blk.chg hc (fun q => hd.da (by rw [show d = a.c from q]; exact hcc)), T, D, hd.dt, fun q => ?_, hd.good⟩, ?_, hc⟩
  · rcases At.told_all q with q | rfl
    · exact hd.da q
    · have := hd.blk.lt; omega
  · have hf := h.few
    unfold Ch.told
    cases pr with
    | true => exact ⟨Nat.zero_le _, hf.2.1, hf.2.2⟩
    | false => exact ⟨hf.1, Nat.zero_le _, hf.2.2⟩
theorem Disk1.fail (h : Disk1 w d t a X N f e K) (pr : Bool) (zs : List Int) (v : Value) (hlen : zs.length ≤ 900) (hv : Nums w w.heap.size .i64 v zs) (hroom : X.l.losses + (if pr then zs.length else f) + (if pr then e else zs.length) ≤ 4) :
    Calls Tryz.prog 12 #[.pointer (some ⟨a.c, 0, none⟩), .bool pr, v] w fun er w' => er = .returned (.tuple #[]) ∧ ∃ b, w.heap.size ≤ b ∧ Disk1 w' d t (a.told pr b) ⟨X.S.told pr zs, X.s, X.l, X.u⟩ N (if pr then zs.length else f) (if pr then e else zs.length) K ∧ Chg w w' (fun j => j = a.c) := by
  refine (h.failD pr zs v hlen hv).mono ?_
  rintro er w' ⟨rfl, b, hb, D, hf, hc⟩
  exact ⟨rfl, b, hb, ⟨D, ⟨h.ok.fine.told pr zs, h.ok.sz, h.ok.n2, h.ok.good, h.ok.tab.same (fun c _ => by unfold Ch.bk; rw [told_bs]), hroom⟩, h.on, h.last, h.u, hf⟩, hc⟩
/-- what Open finds on the chip of a disk in order -/
theorem DOk.look (h : DOk X N f e K) (ho : X.s.off = false) : X.S.lookE X.s = 0 ∧ (keptOf (X.S.lookK X.s)).lay = X.l := by
  obtain ⟨o, j, k, _, hT⟩ := h.tab
  obtain ⟨pg, hlk⟩ := hT.look h.fine.len
  have hn1 := h.fine.n1
  have hm : X.S.mayE X.s = 0 := h.fine.may ho (b := 0) (k := 0) (by omega) (by omega)
  unfold Ch.lookE Ch.lookK
  rw [if_pos hm, if_pos hm, hlk]
  exact ⟨rfl, rfl⟩
theorem dopen_any (hD : Dev w a X.S X.s) (h : DOk X N f e K) (ho : X.s.off = false) : Calls Tryz.prog 40 #[.pointer (some ⟨a.c, 0, none⟩)] w fun er w' => ∃ d t, w.heap.size ≤ t ∧ w.heap.size ≤ d ∧ er = .returned (.tuple #[.pointer (some ⟨d, 0, none⟩), .int .i64 0]) ∧ Dk w' d t a ⟨X.S, X.s, X.l, false⟩ ∧ Below w.heap.size w w' := by
  obtain ⟨h1, h2⟩ := h.look ho
  have k1 := dopen_some hD h1 (by rw [h2]; exact h.good)
  rw [h2] at k1
  exact k1
/-- no spare is left -/
theorem spare_worn {l : Lay} (h : l.good) (h4 : l.losses = 4) : l.spare = none := by
  cases hs : l.spare with
  | none => rfl
  | some b =>
    exfalso
    obtain ⟨b2, bn, bl, bu⟩ := spare_iff.1 (spare_some hs)
    have h3 := (h.lose (spare_some hs)).losses
    have := h.loseLoss (spare_some hs)
    omega
/-- a Program that fails where no spare is left -/
theorem worn_any (hD : Dk w d t a X) (hF : Fine X.S N 1 0) (hsz : X.l.n = N) (hn2 : N ≤ 40) (htab : Tabs X.S N X.l K) (hfp : X.S.fp (X.S.dp : Int) = true) (h4 : X.l.losses = 4) (ho : X.s.off = false) (hl : X.s.after < 0) (hu : X.u = false) (hfw : X.S.few (200 * K)) (hK : K ≤ 4000) {b k : Nat} (hb : b < N - 6) (hk : k < 8) (hn : (X.blk b).nx = k) {p : List UInt8} (hp : p.length = 258) :
    Calls Tryz.prog 88 #[.pointer (some ⟨d, 0, none⟩), .int .i64 (b : Int), .int .i64 (k : Int), .agg (cl p)] w fun er w' => er = .returned (.int .i64 34) ∧ ∃ X', Disk1 w' d t a X' N 0 0 (K + 5) ∧ X'.l = X.l ∧ (∀ y, y < N - 6 → y ≠ b → X'.blk y = X.blk y) ∧ (∀ i, i < k → (X'.blk b).pg.getD i [] = (X.blk b).pg.getD i []) ∧ Chg w w' (a.disk t d) := by
  have hg := hD.good
  refine (dprogram_any hD hu (few_le (by omega) hfw) (b : Int) (k : Int) hp).mono ?_
  rintro er w' ⟨rfl, D, c⟩
  have hat := DS.at_here hsz hb
  obtain ⟨_, h2, hnn, _⟩ := hg.here (x := b) (by omega)
  rw [hsz] at hnn
  have hp8 := hF.oks _ hnn
  obtain ⟨S1, s1, r, n, f1, hE, hF1, hbs, _, _, hc⟩ := hF.prog ho hnn hk (show (X.S.bk (X.l.at_.getD b 0)).nx = k from hn) p
  have hfd := few_dprogram X (b : Int) (k : Int) p _ hfw
  rcases hc with ⟨_, _, _, _, q⟩ | ⟨rfl, rfl, hpn, hf1, _⟩ | ⟨_, _, hpc, _⟩
  · rw [hfp] at q; cases q
  · obtain rfl : f1 = 0 := by omega
    have hX : X.program (b : Int) (k : Int) p = (⟨S1, s1, X.l, X.u⟩, 34) := by
      unfold DS.program
      rw [hat, hE]
      simp only
      rw [if_neg (by decide), h4]
      show DS.move _ _ 1 _ = _
      unfold DS.move
      rw [show (DS.mk S1 s1 X.l X.u).l.spare = none from spare_worn hg h4]
    rw [hX] at D hfd ⊢
    have hbk := bk_set (S := X.S) (by rw [hF.len]; exact hnn) hbs
    have es := hpn.2 hl
    refine ⟨rfl, _, ⟨D, ⟨hF1, hsz, hn2, hg, (htab.same (fun c hc => by rw [hbk, if_neg (by omega)])).more (by omega), by show X.l.losses + 0 + 0 ≤ 4; omega⟩, hpn.1, by show s1.after < 0; rw [es]; exact hl, hu, few_le (by omega) hfd⟩, rfl, fun y hy hyb => ?_, fun i hi => ?_, c⟩
    · show S1.bk (X.l.at_.getD y 0) = X.S.bk _
      rw [hbk, if_neg (hg.apart (by omega) (by omega) hyb)]
    · show (S1.bk (X.l.at_.getD b 0)).pg.getD i [] = _
      rw [hbk, if_pos rfl]
      show ((X.S.bk (X.l.at_.getD b 0)).pg.set k _).getD i [] = _
      rw [getD_setP (by omega), if_neg (by omega)]
      rfl
  · exact absurd hl hpc.2
end
/-- the page of a law: of a byte and a byte of a number -/
def lpg (b k : UInt8) : List UInt8 := FM.page (UInt8.ofNat (1 + b.toNat % 200)) [b, k, b ^^^ 85]
theorem lkind (b : UInt8) : (UInt8.ofNat (1 + b.toNat % 200)).toNat = 1 + b.toNat % 200 := by
  rw [UInt8.toNat_ofNat']
  omega
theorem lkind_ok (b : UInt8) : UInt8.ofNat (1 + b.toNat % 200) ≠ 0 ∧ UInt8.ofNat (1 + b.toNat % 200) ≠ 255 := by
  have h := lkind b
  constructor
  · intro q; rw [q] at h; have : (0 : UInt8).toNat = 0 := rfl; omega
  · intro q; rw [q] at h; have : (255 : UInt8).toNat = 255 := rfl; omega
theorem lpg_length (b k : UInt8) : (lpg b k).length = 258 := FM.page_length _ _ (by simp)
theorem writeM_lpg (b k : UInt8) : FM.writeM (UInt8.ofNat (1 + b.toNat % 200)) [b, k, b ^^^ 85] = (lpg b k, 0) := by
  unfold FM.writeM lpg
  rw [if_neg (by
    rintro (h | h | h)
    · exact (lkind_ok b).1 h
    · exact (lkind_ok b).2 h
    · simp at h)]
theorem readM_lpg (b k : UInt8) : FM.readM (lpg b k) = (UInt8.ofNat (1 + b.toNat % 200), [b, k, b ^^^ 85], 0, 0) := FM.turn_none (by simp) (lkind_ok b).1 (lkind_ok b).2
theorem lpg_stable (b k : UInt8) : Stable (lpg b k) := by
  refine ⟨lpg_length b k, ?_⟩
  unfold mendP
  rw [readM_lpg, if_pos rfl]
  exact congrArg Prod.fst (writeM_lpg b k)
theorem lpg_turned (b k : UInt8) {x : Nat} (hx : x < 2064) : mendP (HM.fl (lpg b k) x) = lpg b k := by
  have e : FM.readM (HM.fl (lpg b k) x) = (UInt8.ofNat (1 + b.toNat % 200), [b, k, b ^^^ 85], 1, 0) := FM.turn_one (by simp) (lkind_ok b).1 (lkind_ok b).2 hx
  unfold mendP
  rw [e, if_pos rfl]
  exact congrArg Prod.fst (writeM_lpg b k)
end Go.Proofs.YtjagonoicaelmaaGreatDoor

/- The laws' own calls: a disk is laid, a page is made. Condition: the table of the check sum holds its sixteen numbers. -/
namespace Go.Proofs.YtjagonoicaelmaaGreatDoor
open Go.RowKit
theorem fresh_markedN {N : Nat} (hN : 16 ≤ N ∧ N ≤ 40) {l : Lay} (h : (Ch.marked N []).fresh = some l) : l.good ∧ l.n = N := by
  have hl : (Ch.marked N []).bs.length = N := markB_length N []
  unfold Ch.fresh at h
  rw [hl] at h
  obtain ⟨h1, h2, _⟩ := fresh_good h hN.1 hN.2
  exact ⟨h1, h2⟩
/-- a disk that was laid for a law -/
structure Begun (w w' : World) (d t : Nat) (a : At) (X : DS) (N : Nat) : Prop where
  one : Disk1 w' d t a X N 0 0 1
  lay : X.l = layN N
  blank : ∀ y, y < N - 6 → Has (X.blk y) []
  far : ∀ j, a.disk t d j → w.heap.size ≤ j
  below : Below w.heap.size w w'
  pwr : X.s = NM.Pwr.fresh
set_option maxRecDepth 100000 in
set_option maxHeartbeats 8000000 in
/-- a chip is made, and made a disk: as a contract of Format behind New -/
theorem begin_any {w w1 : World} {a : At} {N : Nat} (hN : 16 ≤ N ∧ N ≤ 40) (hf : (Ch.marked N []).fresh = some (layN N)) (h0 : (layN N).losses = 0) (hD : Dev w1 a (Ch.marked N []) NM.Pwr.fresh) (hb : Below w.heap.size w w1) (ha : a.behind w.heap.size) :
    Calls Tryz.prog 29 #[.pointer (some ⟨a.c, 0, none⟩)] w1 fun er w' => ∃ d t X, er = .returned (.tuple #[.pointer (some ⟨d, 0, none⟩), .int .i64 0]) ∧ Begun w w' d t a X N := by
  obtain ⟨hg, hn⟩ := fresh_markedN hN hf
  obtain ⟨S', ek, hc, hK, hl, hr⟩ := (marked_calm (N := N) (zs := []) hN.1 (by simp) (by simp)).first (marked_blank (b := 0) (by omega) (by simp)) (marked_blank (b := 1) (by omega) (by simp)) hg.ok
  have hlN : S'.bs.length = N := hl.trans (markB_length N [])
  obtain ⟨q1, q2, q3⟩ := laid_fine hN.1 hc hK hlN hr hg hn
  have hfw := few_keep (Ch.marked N []) NM.Pwr.fresh (layN N) 0 (marked_few _ _ _)
  have k1 := dformat_main (layN N) hD (marked_may hN.1 _) hf (marked_few _ _ _) hg (by rw [ek])
  rw [ek] at k1 hfw
  refine k1.mono ?_
  rintro er w' ⟨d, t, h1, h2, rfl, D, c⟩
  have hbb : Below w.heap.size w w' := Below.chgAll hb c ha (Nat.le_refl _)
  refine ⟨d, t, ⟨S', NM.Pwr.fresh, layN N, false⟩, rfl, ⟨D, ⟨q1, hn, hN.2, hg, q2, by show (layN N).losses + 0 + 0 ≤ 4; omega⟩, rfl, by show (-1 : Int) < 0; omega, rfl, few_le (by omega) hfw⟩, rfl, fun y hy => ?_, fun j hj => ?_, hbb, rfl⟩
  · have e : (DS.mk S' NM.Pwr.fresh (layN N) false).blk y = S'.bk ((layN N).at_.getD y 0) := rfl
    rw [e, layN_at hy, q3 _ (by omega) (by omega)]
    exact Has.blank
  · rcases hj with hj | rfl | rfl
    · exact ha j hj
    · exact Nat.le_trans hb.size h1
    · exact Nat.le_trans hb.size h2
theorem fresh16 : (Ch.marked 16 []).fresh = some (layN 16) := by kernel_rfl
theorem fresh20d : (Ch.marked 20 []).fresh = some (layN 20) := by kernel_rfl
theorem fresh24d : (Ch.marked 24 []).fresh = some (layN 24) := by kernel_rfl
theorem loss16 : (layN 16).losses = 0 := by kernel_rfl
theorem loss20 : (layN 20).losses = 0 := by kernel_rfl
theorem loss24 : (layN 24).losses = 0 := by kernel_rfl
theorem xor8 {a b : Nat} (ha : a < 256) (hb : b < 256) : bits .xor .u8 (a : Int) (b : Int) = ((a ^^^ b : Nat) : Int) := by
  have h : a ^^^ b < 2 ^ 8 := Nat.xor_lt_two_pow ha hb
  show IntKind.u8.wrap ((BitVec.ofInt 8 (a : Int) ^^^ BitVec.ofInt 8 (b : Int)).toNat : Int) = _
  rw [BitVec.toNat_xor, BitVec.ofInt_natCast, BitVec.ofInt_natCast, BitVec.toNat_ofNat, BitVec.toNat_ofNat, Nat.mod_eq_of_lt ha, Nat.mod_eq_of_lt hb, IntKind.wrap_u8]
  omega
end Go.Proofs.YtjagonoicaelmaaGreatDoor

/- The document's example for a disk, as the laws begin: it answers true. Condition: the table of the check sum holds its sixteen numbers. -/
namespace Go.Proofs.YtjagonoicaelmaaGreatDoor
open Go.RowKit
/-- the first pages of a law -/
def lpgs (b : UInt8) (j : Nat) : List (List UInt8) := (List.range j).map fun i => lpg b (UInt8.ofNat i)
theorem lpgs_length (b : UInt8) (j : Nat) : (lpgs b j).length = j := by simp [lpgs]
theorem lpgs_succ (b : UInt8) (j : Nat) : lpgs b (j + 1) = lpgs b j ++ [lpg b (UInt8.ofNat j)] := by
  unfold lpgs
  rw [List.range_succ, List.map_append]
  rfl
theorem lpgs_stable (b : UInt8) (j : Nat) : ∀ q ∈ lpgs b j, Stable q := fun q hq => by
  obtain ⟨i, _, rfl⟩ := List.mem_map.1 hq
  exact lpg_stable b _
theorem lpgs_at (b : UInt8) {i j : Nat} (h : i < j) : (lpgs b j).getD i [] = lpg b (UInt8.ofNat i) := by
  unfold lpgs
  rw [List.getD_eq_getElem?_getD, List.getElem?_map, List.getElem?_range h]
  rfl
theorem wrap_byte {k : Nat} (_ : k < 256) : IntKind.u8.wrap (k : Int) = (((UInt8.ofNat k).toNat : Nat) : Int) := by
  rw [IntKind.wrap_u8, UInt8.toNat_ofNat']
  omega
theorem chg_far {w w1 w2 : World} {a : At} {t d : Nat} (hb : Below w.heap.size w w1) (hc : Chg w1 w2 (a.disk t d)) (hf : ∀ j, a.disk t d j → w.heap.size ≤ j) : Below w.heap.size w w2 := hb.trans (hc.below hf hb.size)
theorem told_far {a : At} {t d b B : Nat} {pr : Bool} (hf : ∀ j, a.disk t d j → B ≤ j) (hb : B ≤ b) : ∀ j, (a.told pr b).disk t d j → B ≤ j := fun j hj => by
  rcases hj with hj | hj
  · rcases At.told_all hj with q | rfl
    · exact hf j (.inl q)
    · exact hb
  · exact hf j (.inr hj)
end Go.Proofs.YtjagonoicaelmaaGreatDoor


/- Several texts of the proof, joined: what each has is said at its head. -/
import Derived.Test.YtaafelhjcmgkdaaGreatDoorQDiskC
import Derived.Test.YtaafelhjcmgkdaaGreatDoorQBbtSpeaks
import Derived.Test.YtaafelhjcmgkdaaGreatDoorQNandFault
/- What the laws of a disk begin with: a chip that was made a disk, pages for it, acts that are to fail. Condition: the table of the check sum holds its sixteen numbers. -/
namespace Go.Proofs.YtaafelhjcmgkdaaGreatDoor
open Go.RowKit
/-- the layout of a chip without bad blocks -/
def layN (N : Nat) : Lay := ⟨N, List.range' 2 (N - 6) ++ List.replicate (40 - N) 0, List.replicate 40 false⟩
theorem layN_at {N y : Nat} (hy : y < N - 6) : (layN N).at_.getD y 0 = y + 2 := by
  show (List.range' 2 (N - 6) ++ List.replicate (40 - N) 0).getD y 0 = _
  rw [List.getD_eq_getElem?_getD, List.getElem?_append_left (by rw [List.length_range']; exact hy), List.getElem?_range' hy, Option.getD_some]
  omega
theorem laid_fine {N : Nat} (hN : 16 ≤ N) {S : Ch} {l : Lay} (hc : Calm S NM.Pwr.fresh) (hK : Keeps S 1 1 l) (hl : S.bs.length = N) (hr : ∀ b, 2 ≤ b → S.bs.getD b ⟨[], 0, false⟩ = (Ch.marked N []).bs.getD b ⟨[], 0, false⟩) (hg : l.good) (hn : l.n = N) :
    Fine S N 0 0 ∧ Tabs S N l 1 ∧ ∀ b, 2 ≤ b → b < N → S.bk b = Bk.blank := by
  have hb : ∀ b, 2 ≤ b → b < N → S.bk b = Bk.blank := fun b h1 h2 => by
    show S.bs.getD b _ = _
    rw [hr b h1, marked_blank h2 (by simp)]
  refine ⟨⟨hc.live, hl, hN, fun b => ?_, fun b h2 => ?_, ⟨[], Nat.le_refl _, fun i _ h => by rw [hc.fp] at h; cases h⟩, ⟨[], Nat.le_refl _, fun i _ h => by rw [hc.fe] at h; cases h⟩⟩, ⟨1, 0, 1, Nat.le_refl _, by omega, by omega, ?_, fun i h1 h2 => ?_, fun i h1 => .inl ?_⟩, hb⟩
  · rcases Nat.lt_or_ge b 2 with c | c
    · exact hc.good b c
    · rcases Nat.lt_or_ge b N with c2 | c2
      · rw [hb b c c2]; rfl
      · show (S.bs.getD b ⟨[], 0, false⟩).bad = false
        rw [List.getD_eq_getElem?_getD, List.getElem?_eq_none (by omega)]
        rfl
  · rcases Nat.lt_or_ge b 2 with c | c
    · exact hc.oks b c
    · rw [hb b c h2]; rfl
  · show tableOf N ((S.bs.getD 1 ⟨[], 0, false⟩).pg.getD 0 []) = _
    rw [hK.here]
    exact tableOf_tpage hg hn (by omega)
  · show tableOf N ((S.bs.getD 1 ⟨[], 0, false⟩).pg.getD i []) = none
    rw [hK.here]
    show tableOf N ((tpage 1 l :: List.replicate 7 NM.ff).getD i []) = none
    rw [page_first h1, if_neg h2]
    exact tableOf_ff
  · show tableOf N ((S.bs.getD 0 ⟨[], 0, false⟩).pg.getD i []) = none
    rw [show S.bs.getD 0 ⟨[], 0, false⟩ = Bk.blank from hK.there, ff_pages h1]
    exact tableOf_ff
section
variable {w w' : World} {d t : Nat} {a : At} {X : DS} {N f e K : Nat}
theorem At.told_all {pr : Bool} {b j : Nat} (h : (a.told pr b).all j) : a.all j ∨ j = b := by
  unfold At.told at h
  cases pr with
  | true =>
    rcases h with (h | h | h | h) | h
    · exact .inl (.inl (.inl h))
    · exact .inl (.inl (.inr (.inl h)))
    · exact .inr (Option.some.inj h).symm
    · exact .inl (.inl (.inr (.inr (.inr h))))
    · exact .inl (.inr h)
  | false =>
    rcases h with (h | h | h | h) | h
    · exact .inl (.inl (.inl h))
    · exact .inl (.inl (.inr (.inl h)))
    · exact .inl (.inl (.inr (.inr (.inl h))))
    · exact .inr (Option.some.inj h).symm
    · exact .inl (.inr h)
theorem At.told_c {pr : Bool} {b : Nat} : (a.told pr b).c = a.c ∧ (a.told pr b).p = a.p := by unfold At.told; cases pr <;> exact ⟨rfl, rfl⟩
theorem left_told (zs : List Int) : Left (fun i => decide (i ∈ zs)) 0 zs.length := ⟨zs.map Int.toNat, by simp, fun i _ h => List.mem_map.2 ⟨(i : Int), of_decide_eq_true h, Int.toNat_natCast i⟩⟩
theorem Fine.told {S : Ch} (h : Fine S N f e) (pr : Bool) (zs : List Int) : Fine (S.told pr zs) N (if pr then zs.length else f) (if pr then e else zs.length) := by
  unfold Ch.told
  cases pr with
  | true => exact ⟨h.live, h.len, h.n1, h.bad, h.oks, left_told zs, h.fe⟩
  | false => exact ⟨h.live, h.len, h.n1, h.bad, h.oks, h.fp, left_told zs⟩
theorem told_bs {S : Ch} {pr : Bool} {zs : List Int} : (S.told pr zs).bs = S.bs := by unfold Ch.told; cases pr <;> rfl
/-- Fail, for a disk that need not have room for what is to fail -/
theorem Disk1.failD (h : Disk1 w d t a X N f e K) (pr : Bool) (zs : List Int) (v : Value) (hlen : zs.length ≤ 900) (hv : Nums w w.heap.size .i64 v zs) :
    Calls Tryz.prog 8 #[.pointer (some ⟨a.c, 0, none⟩), .bool pr, v] w fun er w' => er = .returned (.tuple #[]) ∧ ∃ b, w.heap.size ≤ b ∧ Dk w' d t (a.told pr b) ⟨X.S.told pr zs, X.s, X.l, X.u⟩ ∧ (X.S.told pr zs).few (200 * K) ∧ Chg w w' (fun j => j = a.c) := by
  refine (fail_any a X.S pr zs v hlen w h.dk.dev.pw.lt h.dk.dev.pc hv).mono ?_
  rintro er w' ⟨b, rfl, hb, hP, hc⟩
  have hd := h.dk
  have hac : ¬ a.all t := hd.tb.na
  have hcc : a.all a.c := .inl (.inl rfl)
  have hpc : a.p ≠ a.c := hd.dev.pc.pc
  have hn : 0 ≠ a.c := fun q => hd.dev.far _ hcc q.symm
  have D : Dev w' (a.told pr b) (X.S.told pr zs) X.s := ⟨hP, by rw [At.told_c.2]; exact hd.dev.pw.chg hc hpc, hd.dev.tab.chg hc hn, fun k hk => by
    rcases At.told_all hk with q | rfl
    · exact hd.dev.far k q
    · intro q; have := hd.dev.tab.lt; omega, hd.dev.fits⟩
  have T : Tb w' t (a.told pr b) X.l := ⟨by rw [At.told_c.1]; exact hd.tb.blk.chg hc (fun q => hac (by rw [show t = a.c from q]; exact hcc)), hd.tb.len, fun q => by
    rcases At.told_all q with q | rfl
    · exact hac q
    · have := hd.tb.blk.lt; omega⟩
  refine ⟨rfl, b, hb, ⟨by rw [At.told_c.1]; exact hd.blk.chg hc (fun q => hd.da (by rw [show d = a.c from q]; exact hcc)), T, D, hd.dt, fun q => ?_, hd.good⟩, ?_, hc⟩
  · rcases At.told_all q with q | rfl
    · exact hd.da q
    · have := hd.blk.lt; omega
  · have hf := h.few
    unfold Ch.told
    cases pr with
    | true => exact ⟨Nat.zero_le _, hf.2.1, hf.2.2⟩
    | false => exact ⟨hf.1, Nat.zero_le _, hf.2.2⟩
theorem Disk1.fail (h : Disk1 w d t a X N f e K) (pr : Bool) (zs : List Int) (v : Value) (hlen : zs.length ≤ 900) (hv : Nums w w.heap.size .i64 v zs) (hroom : X.l.losses + (if pr then zs.length else f) + (if pr then e else zs.length) ≤ 4) :
    Calls Tryz.prog 8 #[.pointer (some ⟨a.c, 0, none⟩), .bool pr, v] w fun er w' => er = .returned (.tuple #[]) ∧ ∃ b, w.heap.size ≤ b ∧ Disk1 w' d t (a.told pr b) ⟨X.S.told pr zs, X.s, X.l, X.u⟩ N (if pr then zs.length else f) (if pr then e else zs.length) K ∧ Chg w w' (fun j => j = a.c) := by
  refine (h.failD pr zs v hlen hv).mono ?_
  rintro er w' ⟨rfl, b, hb, D, hf, hc⟩
  exact ⟨rfl, b, hb, ⟨D, ⟨h.ok.fine.told pr zs, h.ok.sz, h.ok.n2, h.ok.good, h.ok.tab.same (fun c _ => by unfold Ch.bk; rw [told_bs]), hroom⟩, h.on, h.last, h.u, hf⟩, hc⟩
/-- what Open finds on the chip of a disk in order -/
theorem DOk.look (h : DOk X N f e K) (ho : X.s.off = false) : X.S.lookE X.s = 0 ∧ (keptOf (X.S.lookK X.s)).lay = X.l := by
  obtain ⟨o, j, k, _, hT⟩ := h.tab
  obtain ⟨pg, hlk⟩ := hT.look h.fine.len
  have hn1 := h.fine.n1
  have hm : X.S.mayE X.s = 0 := h.fine.may ho (b := 0) (k := 0) (by omega) (by omega)
  unfold Ch.lookE Ch.lookK
  rw [if_pos hm, if_pos hm, hlk]
  exact ⟨rfl, rfl⟩
theorem dopen_any (hD : Dev w a X.S X.s) (h : DOk X N f e K) (ho : X.s.off = false) : Calls Tryz.prog 18 #[.pointer (some ⟨a.c, 0, none⟩)] w fun er w' => ∃ d t, w.heap.size ≤ t ∧ w.heap.size ≤ d ∧ er = .returned (.tuple #[.pointer (some ⟨d, 0, none⟩), .int .i64 0]) ∧ Dk w' d t a ⟨X.S, X.s, X.l, false⟩ ∧ Below w.heap.size w w' := by
  obtain ⟨h1, h2⟩ := h.look ho
  have k1 := dopen_some hD h1 (by rw [h2]; exact h.good)
  rw [h2] at k1
  exact k1
/-- no spare is left -/
theorem spare_worn {l : Lay} (h : l.good) (h4 : l.losses = 4) : l.spare = none := by
  cases hs : l.spare with
  | none => rfl
  | some b =>
    exfalso
    obtain ⟨b2, bn, bl, bu⟩ := spare_iff.1 (spare_some hs)
    have h3 := (h.lose (spare_some hs)).losses
    have := h.loseLoss (spare_some hs)
    omega
/-- a Program that fails where no spare is left -/
theorem worn_any (hD : Dk w d t a X) (hF : Fine X.S N 1 0) (hsz : X.l.n = N) (hn2 : N ≤ 40) (htab : Tabs X.S N X.l K) (hfp : X.S.fp (X.S.dp : Int) = true) (h4 : X.l.losses = 4) (ho : X.s.off = false) (hl : X.s.after < 0) (hu : X.u = false) (hfw : X.S.few (200 * K)) (hK : K ≤ 4000) {b k : Nat} (hb : b < N - 6) (hk : k < 8) (hn : (X.blk b).nx = k) {p : List UInt8} (hp : p.length = 258) :
    Calls Tryz.prog 22 #[.pointer (some ⟨d, 0, none⟩), .int .i64 (b : Int), .int .i64 (k : Int), .agg (cl p)] w fun er w' => er = .returned (.int .i64 34) ∧ ∃ X', Disk1 w' d t a X' N 0 0 (K + 5) ∧ X'.l = X.l ∧ (∀ y, y < N - 6 → y ≠ b → X'.blk y = X.blk y) ∧ (∀ i, i < k → (X'.blk b).pg.getD i [] = (X.blk b).pg.getD i []) ∧ Chg w w' (a.disk t d) := by
  have hg := hD.good
  refine (dprogram_any hD hu (few_le (by omega) hfw) (b : Int) (k : Int) hp).mono ?_
  rintro er w' ⟨rfl, D, c⟩
  have hat := DS.at_here hsz hb
  obtain ⟨_, h2, hnn, _⟩ := hg.here (x := b) (by omega)
  rw [hsz] at hnn
  have hp8 := hF.oks _ hnn
  obtain ⟨S1, s1, r, n, f1, hE, hF1, hbs, _, _, hc⟩ := hF.prog ho hnn hk (show (X.S.bk (X.l.at_.getD b 0)).nx = k from hn) p
  have hfd := few_dprogram X (b : Int) (k : Int) p _ hfw
  rcases hc with ⟨_, _, _, _, q⟩ | ⟨rfl, rfl, hpn, hf1, _⟩ | ⟨_, _, hpc, _⟩
  · rw [hfp] at q; cases q
  · obtain rfl : f1 = 0 := by omega
    have hX : X.program (b : Int) (k : Int) p = (⟨S1, s1, X.l, X.u⟩, 34) := by
      unfold DS.program
      rw [hat, hE]
      simp only
      rw [if_neg (by decide), h4]
      show DS.move _ _ 1 _ = _
      unfold DS.move
      rw [show (DS.mk S1 s1 X.l X.u).l.spare = none from spare_worn hg h4]
    rw [hX] at D hfd ⊢
    have hbk := bk_set (S := X.S) (by rw [hF.len]; exact hnn) hbs
    have es := hpn.2 hl
    refine ⟨rfl, _, ⟨D, ⟨hF1, hsz, hn2, hg, (htab.same (fun c hc => by rw [hbk, if_neg (by omega)])).more (by omega), by show X.l.losses + 0 + 0 ≤ 4; omega⟩, hpn.1, by show s1.after < 0; rw [es]; exact hl, hu, few_le (by omega) hfd⟩, rfl, fun y hy hyb => ?_, fun i hi => ?_, c⟩
    · show S1.bk (X.l.at_.getD y 0) = X.S.bk _
      rw [hbk, if_neg (hg.apart (by omega) (by omega) hyb)]
    · show (S1.bk (X.l.at_.getD b 0)).pg.getD i [] = _
      rw [hbk, if_pos rfl]
      show ((X.S.bk (X.l.at_.getD b 0)).pg.set k _).getD i [] = _
      rw [getD_setP (by omega), if_neg (by omega)]
      rfl
  · exact absurd hl hpc.2
end
/-- the page of a law: of a byte and a byte of a number -/
def lpg (b k : UInt8) : List UInt8 := FM.page (UInt8.ofNat (1 + b.toNat % 200)) [b, k, b ^^^ 85]
theorem lkind (b : UInt8) : (UInt8.ofNat (1 + b.toNat % 200)).toNat = 1 + b.toNat % 200 := by
  rw [UInt8.toNat_ofNat']
  omega
theorem lkind_ok (b : UInt8) : UInt8.ofNat (1 + b.toNat % 200) ≠ 0 ∧ UInt8.ofNat (1 + b.toNat % 200) ≠ 255 := by
  have h := lkind b
  constructor
  · intro q; rw [q] at h; have : (0 : UInt8).toNat = 0 := rfl; omega
  · intro q; rw [q] at h; have : (255 : UInt8).toNat = 255 := rfl; omega
theorem lpg_length (b k : UInt8) : (lpg b k).length = 258 := FM.page_length _ _ (by simp)
theorem writeM_lpg (b k : UInt8) : FM.writeM (UInt8.ofNat (1 + b.toNat % 200)) [b, k, b ^^^ 85] = (lpg b k, 0) := by
  unfold FM.writeM lpg
  rw [if_neg (by
    rintro (h | h | h)
    · exact (lkind_ok b).1 h
    · exact (lkind_ok b).2 h
    · simp at h)]
theorem readM_lpg (b k : UInt8) : FM.readM (lpg b k) = (UInt8.ofNat (1 + b.toNat % 200), [b, k, b ^^^ 85], 0, 0) := FM.turn_none (by simp) (lkind_ok b).1 (lkind_ok b).2
theorem lpg_stable (b k : UInt8) : Stable (lpg b k) := by
  refine ⟨lpg_length b k, ?_⟩
  unfold mendP
  rw [readM_lpg, if_pos rfl]
  exact congrArg Prod.fst (writeM_lpg b k)
theorem lpg_turned (b k : UInt8) {x : Nat} (hx : x < 2064) : mendP (HM.fl (lpg b k) x) = lpg b k := by
  have e : FM.readM (HM.fl (lpg b k) x) = (UInt8.ofNat (1 + b.toNat % 200), [b, k, b ^^^ 85], 1, 0) := FM.turn_one (by simp) (lkind_ok b).1 (lkind_ok b).2 hx
  unfold mendP
  rw [e, if_pos rfl]
  exact congrArg Prod.fst (writeM_lpg b k)
end Go.Proofs.YtaafelhjcmgkdaaGreatDoor

/- The laws' own calls: a disk is laid, a page is made. Condition: the table of the check sum holds its sixteen numbers. -/
namespace Go.Proofs.YtaafelhjcmgkdaaGreatDoor
open Go.RowKit
theorem fresh_markedN {N : Nat} (hN : 16 ≤ N ∧ N ≤ 40) {l : Lay} (h : (Ch.marked N []).fresh = some l) : l.good ∧ l.n = N := by
  have hl : (Ch.marked N []).bs.length = N := markB_length N []
  unfold Ch.fresh at h
  rw [hl] at h
  obtain ⟨h1, h2, _⟩ := fresh_good h hN.1 hN.2
  exact ⟨h1, h2⟩
/-- a disk that was laid for a law -/
structure Begun (w w' : World) (d t : Nat) (a : At) (X : DS) (N : Nat) : Prop where
  one : Disk1 w' d t a X N 0 0 1
  lay : X.l = layN N
  blank : ∀ y, y < N - 6 → Has (X.blk y) []
  far : ∀ j, a.disk t d j → w.heap.size ≤ j
  below : Below w.heap.size w w'
  pwr : X.s = NM.Pwr.fresh
set_option maxRecDepth 100000 in
set_option maxHeartbeats 8000000 in
/-- a chip is made, and made a disk: as a contract of Format behind New -/
theorem begin_any {w w1 : World} {a : At} {N : Nat} (hN : 16 ≤ N ∧ N ≤ 40) (hf : (Ch.marked N []).fresh = some (layN N)) (h0 : (layN N).losses = 0) (hD : Dev w1 a (Ch.marked N []) NM.Pwr.fresh) (hb : Below w.heap.size w w1) (ha : a.behind w.heap.size) :
    Calls Tryz.prog 21 #[.pointer (some ⟨a.c, 0, none⟩)] w1 fun er w' => ∃ d t X, er = .returned (.tuple #[.pointer (some ⟨d, 0, none⟩), .int .i64 0]) ∧ Begun w w' d t a X N := by
  obtain ⟨hg, hn⟩ := fresh_markedN hN hf
  obtain ⟨S', ek, hc, hK, hl, hr⟩ := (marked_calm (N := N) (zs := []) hN.1 (by simp) (by simp)).first (marked_blank (b := 0) (by omega) (by simp)) (marked_blank (b := 1) (by omega) (by simp)) hg.ok
  have hlN : S'.bs.length = N := hl.trans (markB_length N [])
  obtain ⟨q1, q2, q3⟩ := laid_fine hN.1 hc hK hlN hr hg hn
  have hfw := few_keep (Ch.marked N []) NM.Pwr.fresh (layN N) 0 (marked_few _ _ _)
  have k1 := dformat_main (layN N) hD (marked_may hN.1 _) hf (marked_few _ _ _) hg (by rw [ek])
  rw [ek] at k1 hfw
  refine k1.mono ?_
  rintro er w' ⟨d, t, h1, h2, rfl, D, c⟩
  have hbb : Below w.heap.size w w' := Below.chgAll hb c ha (Nat.le_refl _)
  refine ⟨d, t, ⟨S', NM.Pwr.fresh, layN N, false⟩, rfl, ⟨D, ⟨q1, hn, hN.2, hg, q2, by show (layN N).losses + 0 + 0 ≤ 4; omega⟩, rfl, by show (-1 : Int) < 0; omega, rfl, few_le (by omega) hfw⟩, rfl, fun y hy => ?_, fun j hj => ?_, hbb, rfl⟩
  · have e : (DS.mk S' NM.Pwr.fresh (layN N) false).blk y = S'.bk ((layN N).at_.getD y 0) := rfl
    rw [e, layN_at hy, q3 _ (by omega) (by omega)]
    exact Has.blank
  · rcases hj with hj | rfl | rfl
    · exact ha j hj
    · exact Nat.le_trans hb.size h1
    · exact Nat.le_trans hb.size h2
theorem fresh16 : (Ch.marked 16 []).fresh = some (layN 16) := by kernel_rfl
theorem fresh20d : (Ch.marked 20 []).fresh = some (layN 20) := by kernel_rfl
theorem fresh24d : (Ch.marked 24 []).fresh = some (layN 24) := by kernel_rfl
theorem loss16 : (layN 16).losses = 0 := by kernel_rfl
theorem loss20 : (layN 20).losses = 0 := by kernel_rfl
theorem loss24 : (layN 24).losses = 0 := by kernel_rfl
set_option maxRecDepth 100000 in
set_option maxHeartbeats 8000000 in
theorem laid_any (N : Nat) (hN : 16 ≤ N ∧ N ≤ 40) (hf : (Ch.marked N []).fresh = some (layN N)) (h0 : (layN N).losses = 0) (w : World) (ht : Tab w) :
    Calls Tryz.prog 6 #[.int .i64 (N : Int)] w fun er w' => ∃ d t a X, er = .returned (.pointer (some ⟨d, 0, none⟩)) ∧ Begun w w' d t a X N := by
  have k0 := newpower_any w
  have HT := Lib.hid ht
  have HN := Lib.hid hN
  have HF := Lib.hid hf
  have H0 := Lib.hid h0
  clear ht hN hf h0
  go_enter Tryz.func6, Tryz.ntmps6
  go_wp2_with ((with_reducible refine k0.mono ?_); rintro e w1 ⟨rfl, P1, b1⟩)
  have hn : Nums w1 w1.heap.size .i64 (.slice none 0 0) [] := ⟨none, 0, rfl, Nat.le_refl _, Nat.zero_le _, (fun j u h => by simp at h), fun z h => by cases h⟩
  have k1 := devNew HT.out b1 w.heap.size (Nat.le_refl _) P1 N HN.out [] _ hn rfl
  have hbh : At.behind ⟨w1.heap.size + 1, w1.heap.size, w.heap.size, none, none⟩ w.heap.size := behind_new b1.size (Nat.le_refl _)
  have HB1 := Lib.hid b1
  have HBH := Lib.hid hbh
  clear k0 P1 b1 hn hbh
  go_wp2_with fail
  ((with_reducible refine k1.mono ?_); rintro e w2 ⟨rfl, D2, b2⟩)
  have B2 : Hid (Below w.heap.size w w2) := Lib.hid (HB1.out.trans (b2.mono HB1.out.size))
  obtain ⟨a, ha⟩ : ∃ a : At, a = ⟨w1.heap.size + 1, w1.heap.size, w.heap.size, none, none⟩ := ⟨_, rfl⟩
  have hac : w1.heap.size + 1 = a.c := by rw [ha]
  rw [hac]
  rw [← ha] at D2 HBH
  have k2 := begin_any HN.out HF.out H0.out D2 B2.out HBH.out
  clear b2 HB1 k1 ha hac D2
  go_wp2_with fail
  ((with_reducible refine k2.mono ?_); rintro e w3 ⟨d, t, X, rfl, hX⟩)
  go_wp2_with fail
  go_ret
  exact ⟨d, t, a, X, rfl, hX⟩
theorem xor8 {a b : Nat} (ha : a < 256) (hb : b < 256) : bits .xor .u8 (a : Int) (b : Int) = ((a ^^^ b : Nat) : Int) := by
  have h : a ^^^ b < 2 ^ 8 := Nat.xor_lt_two_pow ha hb
  show IntKind.u8.wrap ((BitVec.ofInt 8 (a : Int) ^^^ BitVec.ofInt 8 (b : Int)).toNat : Int) = _
  rw [BitVec.toNat_xor, BitVec.ofInt_natCast, BitVec.ofInt_natCast, BitVec.toNat_ofNat, BitVec.toNat_ofNat, Nat.mod_eq_of_lt ha, Nat.mod_eq_of_lt hb, IntKind.wrap_u8]
  omega
set_option maxRecDepth 100000 in
set_option maxHeartbeats 8000000 in
theorem page_any (b : UInt8) (k : Int) (kb : UInt8) (hk : IntKind.u8.wrap k = ((kb.toNat : Nat) : Int)) (w : World) (ht : Tab w) :
    Calls Tryz.prog 23 #[.int .u8 ((b.toNat : Nat) : Int), .int .i64 k] w fun er w' => er = .returned (.agg (cl (lpg b kb))) ∧ Below w.heap.size w w' := by
  have z := zeroPage
  have HPL := Lib.hid (lpg_length b kb)
  have b1 : Below w.heap.size w (w.alloc (.cells (cl pzeros) 54)) := (Below.refl _ _).alloc (Nat.le_refl _) _
  have R1 := PArr.new w pzeros_length
  obtain ⟨w1, hw1⟩ : ∃ w1, w1 = w.alloc (.cells (cl pzeros) 54) := ⟨_, rfl⟩
  have hs1 : w1.heap.size = w.heap.size + 1 := by rw [hw1, World.size_alloc]
  rw [← hw1] at b1 R1
  obtain ⟨y, hy⟩ : ∃ y, y = b ^^^ 85 := ⟨_, rfl⟩
  have hxb : bits .xor .u8 ((b.toNat : Nat) : Int) 85 = ((y.toNat : Nat) : Int) := by
    rw [hy, UInt8.toNat_xor]
    exact xor8 (b := 85) b.toNat_lt (by omega)
  have hwm := writeM_lpg b kb
  rw [← hy] at hwm
  have Y := Bytes.lit w1 [b, kb, y] 3 rfl (by simp [maxLen]) #[.int .u8 ((b.toNat : Nat) : Int), .int .u8 ((kb.toNat : Nat) : Int), .int .u8 ((y.toNat : Nat) : Int)] rfl 5 (0, 0) w1.heap.size rfl (w1.heap.size + 1) (Nat.lt_succ_self _)
  have J := Joined.one Y (by rw [World.size_alloc]; exact Nat.le_refl _) (w1.heap.size + 1) (by rw [World.size_alloc]) (w1.heap.size + 2) (Nat.lt_succ_self _) 90
  obtain ⟨Ls, hLs, hfl⟩ := J
  have b3 : Below w1.heap.size w1 ((w1.alloc (.cells #[.int .u8 ((b.toNat : Nat) : Int), .int .u8 ((kb.toNat : Nat) : Int), .int .u8 ((y.toNat : Nat) : Int)] 5)).alloc (.cells #[.slice (some ⟨w1.heap.size, 0, none⟩) 3 3] 90)) := ((Below.refl _ _).alloc (Nat.le_refl _) _).alloc (by simp) _
  have B3 := b1.trans (b3.mono b1.size)
  have k3 := write_any (UInt8.ofNat (1 + b.toNat % 200)) _ Ls _ (w1.heap.size + 2) (by simp) hLs (ht.below B3 ht.lt) (by rw [hfl]; simp)
  rw [hfl, hwm, lkind] at k3
  simp only at k3
  have e1 : (((1 + b.toNat % 200 : Nat)) : Int) = 1 + ((b.toNat : Nat) : Int) % 200 := by omega
  rw [e1] at k3
  rw [hw1, World.size_alloc] at k3
  have R3 := R1.after b3
  rw [hw1, World.size_alloc] at R3 B3
  have HR := Lib.hid R3
  have HB := Lib.hid B3
  have hb := b.toNat_lt
  have hr : ((b.toNat : Nat) : Int).tmod 200 = ((b.toNat : Nat) : Int) % 200 := Int.tmod_eq_emod_of_nonneg (by omega)
  clear b1 R1 hs1 Y hLs hfl b3 B3 R3 e1 ht hw1 hwm hy
  go_enter Tryz.func23, Tryz.ntmps23
  go_wp2_with fail
  ((with_reducible refine k3.mono ?_); rintro e w4 ⟨rfl, b4⟩)
  have hb5 := Lib.hid (HB.out.trans (b4.mono HB.out.size))
  have hr4 := (HR.out.after b4).lt
  have P5 := (HR.out.after b4).alloc (.cells (cl pzeros) 54)
  have N5 := PArr.new w4 pzeros_length
  clear k3 HR HB b4
  go_wp2_with (first
    | (with_reducible refine wpl_pstore (.tmp 5) (.tmp 19) rfl rfl N5 rfl HPL.out rfl ?_; intro w6 N6 g6 e6; have P6 := P5.grown g6 (by omega))
    | (with_reducible refine wpl_pload (.tmp 5) rfl rfl N6 rfl ?_)
    | (with_reducible refine wpl_pstore (.tmp 4) (.tmp 21) rfl rfl P6 rfl HPL.out rfl ?_; intro w7 P7 g7 e7))
  refine bodyPost_ret (pret1' rfl _ P7 rfl) rfl ?_
  exact ⟨rfl, ((hb5.out.alloc hb5.out.size (.cells (cl pzeros) 54)).grown g6 (by rw [World.size_alloc]; have := hb5.out.size; omega) (fun k e => by cases e; exact hb5.out.size)).grown g7 (by rw [e6, World.size_alloc]; have := hb5.out.size; omega) (fun k e => by cases e; omega)⟩
end Go.Proofs.YtaafelhjcmgkdaaGreatDoor

/- The document's example for a disk, as the laws begin: it answers true. Condition: the table of the check sum holds its sixteen numbers. -/
namespace Go.Proofs.YtaafelhjcmgkdaaGreatDoor
open Go.RowKit
/-- the first pages of a law -/
def lpgs (b : UInt8) (j : Nat) : List (List UInt8) := (List.range j).map fun i => lpg b (UInt8.ofNat i)
theorem lpgs_length (b : UInt8) (j : Nat) : (lpgs b j).length = j := by simp [lpgs]
theorem lpgs_succ (b : UInt8) (j : Nat) : lpgs b (j + 1) = lpgs b j ++ [lpg b (UInt8.ofNat j)] := by
  unfold lpgs
  rw [List.range_succ, List.map_append]
  rfl
theorem lpgs_stable (b : UInt8) (j : Nat) : ∀ q ∈ lpgs b j, Stable q := fun q hq => by
  obtain ⟨i, _, rfl⟩ := List.mem_map.1 hq
  exact lpg_stable b _
theorem lpgs_at (b : UInt8) {i j : Nat} (h : i < j) : (lpgs b j).getD i [] = lpg b (UInt8.ofNat i) := by
  unfold lpgs
  rw [List.getD_eq_getElem?_getD, List.getElem?_map, List.getElem?_range h]
  rfl
theorem wrap_byte {k : Nat} (_ : k < 256) : IntKind.u8.wrap (k : Int) = (((UInt8.ofNat k).toNat : Nat) : Int) := by
  rw [IntKind.wrap_u8, UInt8.toNat_ofNat']
  omega
theorem chg_far {w w1 w2 : World} {a : At} {t d : Nat} (hb : Below w.heap.size w w1) (hc : Chg w1 w2 (a.disk t d)) (hf : ∀ j, a.disk t d j → w.heap.size ≤ j) : Below w.heap.size w w2 := hb.trans (hc.below hf hb.size)
theorem told_far {a : At} {t d b B : Nat} {pr : Bool} (hf : ∀ j, a.disk t d j → B ≤ j) (hb : B ≤ b) : ∀ j, (a.told pr b).disk t d j → B ≤ j := fun j hj => by
  rcases hj with hj | hj
  · rcases At.told_all hj with q | rfl
    · exact hf j (.inl q)
    · exact hb
  · exact hf j (.inr hj)
set_option maxRecDepth 100000 in
set_option maxHeartbeats 16000000 in
theorem dspeaks_any (w : World) (ht : Tab w) : Calls Tryz.prog 5 #[] w fun er w' => er = .returned (.bool true) ∧ Below w.heap.size w w' := by
  have k0 := newpower_any w
  have HT := Lib.hid ht
  have z := zeroPage
  clear ht
  go_enter Tryz.func5, Tryz.ntmps5
  go_wp2_with ((with_reducible refine k0.mono ?_); rintro e w1 ⟨rfl, P1, b1⟩)
  have hn : Nums w1 w1.heap.size .i64 (.slice none 0 0) [] := ⟨none, 0, rfl, Nat.le_refl _, Nat.zero_le _, (fun j u h => by simp at h), fun z h => by cases h⟩
  have k1 := devNew HT.out b1 w.heap.size (Nat.le_refl _) P1 16 (by omega) [] _ hn rfl
  rw [show ((16 : Nat) : Int) = 16 from rfl] at k1
  have hbh : At.behind ⟨w1.heap.size + 1, w1.heap.size, w.heap.size, none, none⟩ w.heap.size := behind_new b1.size (Nat.le_refl _)
  have HB1 := Lib.hid b1
  have HBH := Lib.hid hbh
  clear k0 P1 b1 hn hbh
  go_wp2_with fail
  ((with_reducible refine k1.mono ?_); rintro e w2 ⟨rfl, D2, b2⟩)
  have B2 : Hid (Below w.heap.size w w2) := Lib.hid (HB1.out.trans (b2.mono HB1.out.size))
  obtain ⟨a, ha⟩ : ∃ a : At, a = ⟨w1.heap.size + 1, w1.heap.size, w.heap.size, none, none⟩ := ⟨_, rfl⟩
  have hac : w1.heap.size + 1 = a.c := by rw [ha]
  rw [hac]
  rw [← ha] at D2 HBH
  have k2 := begin_any (N := 16) (by omega) fresh16 loss16 D2 B2.out HBH.out
  clear b2 HB1 k1 ha hac D2
  go_wp2_with fail
  ((with_reducible refine k2.mono ?_); rintro e w3 ⟨d, t, X, rfl, hX⟩)
  have HX := Lib.hid hX
  have hh : X.l.losses = 0 := by rw [hX.lay]; exact loss16
  have H0 := Lib.hid hh
  have c0 := hX.one.dk.cells.1
  clear k2 hX hh
  have b4 : Below w3.heap.size w3 (w3.alloc (.cells #[.int .i64 2] 3)) := (Below.refl _ _).alloc (Nat.le_refl _) _
  have hn4 : Nums (w3.alloc (.cells #[.int .i64 2] 3)) (w3.alloc (.cells #[.int .i64 2] 3)).heap.size .i64 (.slice (some ⟨w3.heap.size, 0, none⟩) 1 1) [2] := nums_new w3 3 [2] (by decide) (by decide)
  have k4 := (HX.out.one.after b4).fail true [2] _ (by decide) hn4 (by rw [H0.out]; decide)
  have HB4 := Lib.hid b4
  clear b4 hn4
  go_wp2_with fail
  ((with_reducible refine k4.mono ?_); rintro e w5 ⟨rfl, b, hb, hD, hc⟩)
  have B5 : Hid (Below w.heap.size w w5) := Lib.hid ((HX.out.below.trans (HB4.out.mono HX.out.below.size)).trans (hc.below (fun j q => by rw [q]; exact HX.out.far _ (.inl (.inl (.inl rfl)))) (Nat.le_trans HX.out.below.size HB4.out.size)))
  have hb5 : w.heap.size ≤ b := Nat.le_trans (Nat.le_trans HX.out.below.size HB4.out.size) hb
  obtain ⟨a', ha'⟩ : ∃ a', a' = a.told true b := ⟨_, rfl⟩
  have HF : Hid (∀ j, a'.disk t d j → w.heap.size ≤ j) := Lib.hid (by rw [ha']; exact told_far HX.out.far hb5)
  rw [← ha'] at hD
  have HD := Lib.hid hD
  have HL : Hid (Has (X.blk 4) []) := Lib.hid (HX.out.blank 4 (by omega))
  obtain ⟨X0, hX0⟩ : ∃ X0, X0 = DS.mk (X.S.told true [2]) X.s X.l X.u := ⟨_, rfl⟩
  have hq0 : X0.S.fp = (fun i => decide (i ∈ [(2 : Int)])) ∧ X0.S.dp = 0 ∧ X0.l.losses = 0 ∧ X0.blk 4 = X.blk 4 := by
    rw [hX0]
    exact ⟨rfl, rfl, H0.out, by unfold DS.blk Ch.bk; rw [told_bs]⟩
  rw [← hX0] at HD
  rw [← hq0.2.2.2] at HL
  have HQ0 := Lib.hid hq0
  clear k4 hD hc hb hb5 HX c0 HB4 B2 HBH H0 hX0 hq0 ha'
  go_wp2_with fail
  go_loopw [5] (fun i wr => ∃ j : Nat, j ≤ 3 ∧ i = .int .i64 j ∧ ∃ (X : DS) (f e : Nat), Disk1 wr d t a' X 16 f e (1 + 5 * j) ∧ Has (X.blk 4) (lpgs 1 j) ∧ (j ≤ 2 → X.S.fp = (fun i => decide (i ∈ [(2 : Int)])) ∧ X.S.dp = j ∧ X.l.losses = 0 ∧ f = 1 ∧ e = 0) ∧ (j = 3 → X.l.losses = 1) ∧ Below w.heap.size w wr) (fun i _ => 3 - (intOf i).toNat)
  case atStart => exact ⟨0, by omega, rfl, X0, _, _, HD.out, HL.out, fun _ => ⟨HQ0.out.1, HQ0.out.2.1, HQ0.out.2.2.1, rfl, rfl⟩, fun h => by omega, B5.out⟩
  case round =>
    rename_i wr
    obtain ⟨j, hj, rfl, X, f, e, hD, hL, h2, h3, hB⟩ := hrel
    clear HD HL HQ0 B5
    by_cases hlt : j < 3
    · have kp := page_any 1 (j : Int) (UInt8.ofNat j) (wrap_byte (by omega)) wr hD.dk.dev.tab
      rw [show (((1 : UInt8).toNat : Nat) : Int) = 1 from rfl] at kp
      obtain ⟨q1, q2, q3, q4, q5⟩ := h2 (by omega)
      have kq := fun (W : World) (hW : Below wr.heap.size wr W) => (hD.after hW).program (b := 4) (by omega) hL (by rw [lpgs_length]; omega) (lpgs_stable 1 j) (lpg_stable 1 (UInt8.ofNat j)) (by omega)
      rw [lpgs_length, ← lpgs_succ, q1, q2, q3, q4, q5, show ((4 : Nat) : Int) = 4 from rfl] at kq
      have KQ := Lib.hid kq
      have HB := Lib.hid hB
      clear hD hL h2 h3 hB kq q1 q2 q3 q4 q5
      have hj3 : (j : Int) < 3 := by omega
      go_wp2_with ((with_reducible refine kp.mono ?_); rintro e w6 ⟨rfl, b6⟩; have k6 := KQ.out _ b6)
      ((with_reducible refine k6.mono ?_); rintro e w7 ⟨rfl, X', f', e', hD, lf, le, hls, hL, hoth, ht1, ht2, hc⟩)
      have hB7 := chg_far (HB.out.trans (b6.mono HB.out.size)) hc HF.out
      have hr : (j + 1 ≤ 2 → X'.S.fp = (fun i => decide (i ∈ [(2 : Int)])) ∧ X'.S.dp = j + 1 ∧ X'.l.losses = 0 ∧ f' = 1 ∧ e' = 0) ∧ (j + 1 = 3 → X'.l.losses = 1) := by
        refine ⟨fun hle => ?_, fun he => ?_⟩
        · obtain ⟨z1, z2, z3, z4, z5⟩ := ht2 (by simp; omega)
          exact ⟨z2, z3, by omega, z4, z5⟩
        · have := ht1 (by simp; omega)
          omega
      have HR := Lib.hid (And.intro hr (And.intro hD (And.intro hL hB7)))
      clear kp KQ b6 k6 hD lf le hls hL hoth ht1 ht2 hc hr hB7
      go_wp2_with fail
      exact ⟨⟨j + 1, by omega, by go_num, X', f', e', HR.out.2.1, HR.out.2.2.1, HR.out.1.1, HR.out.1.2, HR.out.2.2.2⟩, by simp [intOf]; omega⟩
    · obtain rfl : j = 3 := by omega
      have hl1 := h3 rfl
      have kr := hD.read (b := 4) (k := 0) (by omega) (by omega)
      rw [hL.pg 0 (by rw [lpgs_length]; omega), lpgs_at 1 (by omega), show ((4 : Nat) : Int) = 4 from rfl, show ((0 : Nat) : Int) = 0 from rfl] at kr
      have klo := fun (W : World) (hW : Below wr.heap.size wr W) => (hD.after hW).lost
      rw [hl1] at klo
      have kp := fun (W : World) (hW : Below wr.heap.size wr W) => page_any 1 0 (UInt8.ofNat 0) (wrap_byte (k := 0) (by omega)) W (hD.dk.dev.tab.below hW hD.dk.dev.tab.lt)
      rw [show (((1 : UInt8).toNat : Nat) : Int) = 1 from rfl] at kp
      have hpl := lpg_length 1 (UInt8.ofNat 0)
      have hEq : ∀ w, (Op.equalIn 10000 54 (.agg (cl (lpg 1 (UInt8.ofNat 0)))) (.agg (cl (lpg 1 (UInt8.ofNat 0))))).run Tryz.prog w = .ok true w := fun w => by
        have := equalIn_pcl hpl hpl w
        rw [decide_eq_true rfl] at this
        exact this
      obtain ⟨pg, hpg⟩ : ∃ pg, pg = lpg 1 (UInt8.ofNat 0) := ⟨_, rfl⟩
      rw [← hpg] at kr kp hpl hEq
      have HPL := Lib.hid hpl
      have KL := Lib.hid klo
      have KP := Lib.hid kp
      have HB := Lib.hid hB
      clear hD hL h2 h3 hB hl1 klo kp hpl hpg hj hlt
      go_wp2_with (first
        | ((with_reducible refine kr.mono ?_); rintro e w6 ⟨rfl, b6⟩; have N6 := PArr.new w6 pzeros_length)
        | (with_reducible refine wpl_pstore (.tmp 6) (.tmp 44) rfl rfl N6 rfl HPL.out rfl ?_; intro w7 N7 g7 e7))
      have B7 : Below wr.heap.size wr w7 := (b6.alloc b6.size _).grown g7 (by rw [World.size_alloc]; exact Nat.le_succ_of_le b6.size) (fun k e => by have := Option.some.inj e; have := b6.size; omega)
      have hls := KL.out _ B7.drew
      have S0 : PArr w7.drew w6.heap.size pg := N7
      refine wp_region_held_drew (S := fun w' => PArr w' w6.heap.size pg) (by kernel_rfl) S0 (fun _ => ?_)
      refine wpAnyH_take (i := 0) (v := .pointer (some ⟨d, 0, none⟩)) rfl (by kernel_rfl) (by kernel_rfl) (by kernel_rfl) (fun _ _ _ h => h) (Or.inl ⟨by kernel_rfl, fun w _ => by go_simp⟩) S0 ?_
      refine wpAnyH_ready (rs := [1]) (by kernel_rfl) (by simp) (AllReadyH.cons rfl (fun K hK => ?_) AllReadyH.nil)
      go_simp
      ((with_reducible refine hls.mono ?_); rintro e w' ⟨rfl, rfl⟩)
      refine hK.out _ _ S0 (fun _ => ?_)
      clear hK K hls
      refine wpAnyH_take (i := 2) (v := .bool true) rfl (by kernel_rfl) (by kernel_rfl) (by kernel_rfl) (fun _ _ _ h => h) (Or.inl ⟨by kernel_rfl, fun w _ => by go_simp⟩) S0 ?_
      refine wpAnyH_take (i := 3) (v := .bool true) rfl (by kernel_rfl) (by kernel_rfl) (by kernel_rfl) (fun _ _ _ h => h) (Or.inl ⟨by kernel_rfl, fun w _ => by go_simp⟩) S0 ?_
      refine wpAnyH_take (i := 4) (v := .int .i64 0) rfl (by kernel_rfl) (by kernel_rfl) (by kernel_rfl) (fun _ _ _ h => h) (Or.inl ⟨by kernel_rfl, fun w _ => by go_simp⟩) S0 ?_
      refine wpAnyH_take (i := 5) (v := .bool true) rfl (by kernel_rfl) (by kernel_rfl) (by kernel_rfl) (fun _ _ _ h => h) (Or.inl ⟨by kernel_rfl, fun w _ => by go_simp⟩) S0 ?_
      refine wpAnyH_take (i := 6) (v := .bool true) rfl (by kernel_rfl) (by kernel_rfl) (by kernel_rfl) (fun _ _ _ h => h) (Or.inl ⟨by kernel_rfl, fun w _ => by go_simp⟩) S0 ?_
      refine wpAnyH_take (i := 7) (v := .bool true) rfl (by kernel_rfl) (by kernel_rfl) (by kernel_rfl) (fun _ _ _ h => h) (Or.inl ⟨by kernel_rfl, fun w _ => by go_simp⟩) S0 ?_
      refine wpAnyH_take (i := 8) (v := .agg (cl pg)) rfl (by kernel_rfl) (by kernel_rfl) (by kernel_rfl) (fun _ _ _ h => h) (yields_pload (g := w6.heap.size) (.tmp 6) (by kernel_rfl) (by kernel_rfl) (by kernel_rfl) (fun _ h => h)) S0 ?_
      refine wpAnyH_ready (rs := [9]) (by kernel_rfl) (by simp) (AllReadyH.cons rfl (fun K hK => ?_) AllReadyH.nil)
      go_simp
      have kq := KP.out _ B7.drew
      ((with_reducible refine kq.mono ?_); rintro e w8 ⟨rfl, b8⟩)
      have S1 : PArr w8 w6.heap.size pg := S0.after b8
      refine hK.out _ _ S1 (fun _ => ?_)
      clear hK K kq
      refine wpAnyH_take (i := 10) (v := .bool true) rfl (by kernel_rfl) (by kernel_rfl) (by kernel_rfl) (fun _ _ _ h => h) (Or.inl ⟨by kernel_rfl, fun w _ => by go_simp⟩) S1 ?_
      refine wpAnyH_take (i := 11) (v := .bool true) rfl (by kernel_rfl) (by kernel_rfl) (by kernel_rfl) (fun _ _ _ h => h) (Or.inl ⟨by kernel_rfl, fun w _ => by go_simp⟩) S1 ?_
      refine wpAnyH_take (i := 12) (v := .bool true) rfl (by kernel_rfl) (by kernel_rfl) (by kernel_rfl) (fun _ _ _ h => h) (Or.inl ⟨by kernel_rfl, fun w _ => by go_simp⟩) S1 ?_
      refine wpAnyH_done (by kernel_rfl) ?_ _
      have B8 : Below w.heap.size w w8 := (HB.out.trans (B7.drew.mono HB.out.size)).trans (b8.mono (Nat.le_trans HB.out.size B7.drew.size))
      clear S0 S1 N7 N6
      go_wp2_with fail
      go_ret
      exact ⟨rfl, B8⟩
end Go.Proofs.YtaafelhjcmgkdaaGreatDoor


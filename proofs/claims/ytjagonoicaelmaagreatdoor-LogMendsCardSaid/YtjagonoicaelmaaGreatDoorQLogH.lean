/- Several texts of the proof, joined: what each has is said at its head. -/
import Derived.Test.YtjagonoicaelmaaGreatDoorQLogG
import Derived.Test.YtjagonoicaelmaaGreatDoorQLogF
import Derived.Test.YtjagonoicaelmaaGreatDoorQDiskE
/- How many bits of a segment's pages must be mended. Condition: the log is there; of each page it is one at most. -/
namespace Go.Proofs.YtjagonoicaelmaaGreatDoor
open Go.RowKit
def mendS (pg : Nat → List UInt8) : Nat → Nat
  | 0 => 0
  | k + 1 => mendS pg k + (FM.readM (pg k)).2.2.1
theorem mendS_le {pg : Nat → List UInt8} : ∀ k, (∀ j, j < k → (FM.readM (pg j)).2.2.1 ≤ 1) → mendS pg k ≤ k
  | 0, _ => Nat.le_refl _
  | k + 1, h => by
    have h1 := mendS_le k (fun j hj => h j (by omega))
    have h2 := h k (by omega)
    unfold mendS
    omega
/-- of a log's page it is one bit at most -/
theorem mended_one {B : Bk} {b : LB} (h : b.ok) (hH : HasN B b.pages) (j : Nat) (hj : j < 8) : (FM.readM (B.pg.getD j [])).2.2.1 ≤ 1 := by
  by_cases c : j < b.pages.length
  · obtain ⟨k, body, hb, h0, h1, e⟩ := h.isRec _ (getD_mem c)
    have hn := hH.pg j c
    rw [e] at hn
    obtain ⟨m, hm, er⟩ := near_read hb h0 h1 hn
    rw [er]
    exact hm
  · rw [hH.ff j (by omega) hj, ff_read]
    exact Nat.zero_le _
section
variable {w : World} {g h d t : Nat} {a : At} {X : DS} {N K : Nat} {Bs : List LB} {num : Nat}
theorem mend8_no (l : Lg w g h d t a X N K Bs num) {x : Int} (hx : isSegM Bs x = false) :
    Calls Tryz.prog 25 #[.pointer (some ⟨g, 0, none⟩), .int .i64 x] w fun e w' => e = .returned (.tuple #[.int .i64 0, .int .i64 1]) ∧ w = w' := by
  have KI := Lib.hid (isSegment_any l x)
  rw [hx] at KI
  clear l hx
  go_enter Tryz.func25, Tryz.ntmps25
  go_wp2_with (go_at_call 33; ((with_reducible refine KI.out.mono ?_); rintro e w2 ⟨rfl, rfl⟩))
  go_ret2
  exact ⟨rfl, rfl⟩
set_option maxRecDepth 100000 in
set_option maxHeartbeats 8000000 in
theorem mend8_any (l : Lg w g h d t a X N K Bs num) {x : Nat} {b : LB} (hb : Bs[x]? = some b) (hs : b.seg = true) (hm : ∀ j, j < 8 → (FM.readM ((X.blk x).pg.getD j [])).2.2.1 ≤ 1) :
    Calls Tryz.prog 25 #[.pointer (some ⟨g, 0, none⟩), .int .i64 (x : Int)] w fun e w' => e = .returned (.tuple #[.int .i64 ((mendS (fun k => (X.blk x).pg.getD k []) 8 : Nat) : Int), .int .i64 0]) ∧ Below w.heap.size w w' := by
  have z := zeroPage
  have KI := Lib.hid (isSegment_any l (x : Int))
  rw [show isSegM Bs (x : Int) = true by unfold isSegM; simp [segAt_get hb, hs]] at KI
  have HX := Lib.hid (show x < N - 6 by have := get_lt hb; rw [l.len] at this; exact this)
  have HL := Lib.hid l
  have HMD := Lib.hid hm
  clear l hb hs hm
  go_enter Tryz.func25, Tryz.ntmps25
  go_wp2_with (go_at_call 33; ((with_reducible refine KI.out.mono ?_); rintro e w2 ⟨rfl, rfl⟩; clear KI))
  go_loopw [6, 7, 8, 9, 10, 11, 12, 13, 18] (fun vs _ _ _ _ _ _ _ vi wr => ∃ i s : Nat, vi = .int .i64 (i : Int) ∧ i ≤ 8 ∧ vs = .int .i64 (s : Int) ∧ s ≤ 8 ∧ Hid (mendS (fun k => (X.blk x).pg.getD k []) i = s) ∧ Hid (Below w.heap.size w wr)) (fun _ _ _ _ _ _ _ _ vi _ => 8 - (intOf vi).toNat)
  case atStart => exact ⟨0, 0, rfl, by omega, rfl, by omega, Lib.hid rfl, Lib.hid (Below.refl _ _)⟩
  case round =>
    obtain ⟨i, s, rfl, hi, rfl, hs8, HS, hb⟩ := hrel
    by_cases hlt : i < 8
    · have L1 := Lib.hid (HL.out.after hb.out)
      obtain ⟨c0, _, _⟩ := L1.out.cells
      have KR := Lib.hid (L1.out.dk.read HX.out (k := i) hlt)
      have HPL := Lib.hid (L1.out.dk.page HX.out (k := i) hlt)
      have HS2 := Lib.hid (show mendS (fun k => (X.blk x).pg.getD k []) (i + 1) = s + (FM.readM ((X.blk x).pg.getD i [])).2.2.1 by show mendS _ i + _ = _; rw [HS.out])
      have hle := mendS_le (i + 1) (fun j hj => HMD.out j (by omega))
      rw [HS2.out] at hle
      obtain ⟨p, hp⟩ : ∃ p, (X.blk x).pg.getD i [] = p := ⟨_, rfl⟩
      rw [hp] at KR HPL HS2 hle
      have HT := Lib.hid L1.out.dk.tab
      have KF := Lib.hid (fun (W : World) (ht : Tab W) => read_any p HPL.out W ht)
      obtain ⟨rm, hrm⟩ : ∃ rm, (FM.readM p).2.2.1 = rm := ⟨_, rfl⟩
      obtain ⟨re, hre⟩ : ∃ re, (FM.readM p).2.2.2 = re := ⟨_, rfl⟩
      rw [hrm, hre] at KF
      rw [hrm] at HS2 hle
      clear hp hrm hre
      go_wp2_with (first
        | (go_at_call 50; ((with_reducible refine KR.out.mono ?_); rintro e w1 ⟨rfl, b1⟩; have B1 := Lib.hid b1; have N1 := PArr.new w1 pzeros_length; clear KR b1))
        | (with_reducible refine wpl_pstore (.tmp 8) (.tmp 29) rfl rfl N1 rfl HPL.out rfl ?_; intro w2 P2 g2 e2; have B2 := Lib.hid ((B1.out.alloc B1.out.size (.cells (cl pzeros) 101)).grown g2 (by rw [World.size_alloc]; have := B1.out.size; omega) (fun k e => by cases e; exact B1.out.size)); clear N1 g2 e2)
        | (with_reducible refine wpl_pload (.tmp 8) rfl rfl P2 rfl ?_)
        | (go_at_call 51; fail))
      ((with_reducible refine (KF.out _ (HT.out.below B2.out HT.out.lt)).mono ?_); rintro e w3 ⟨vb, rfl, hvb, b3⟩)
      have B3 := Lib.hid (hb.out.trans ((B2.out.trans (b3.mono B2.out.size)).mono hb.out.size))
      clear KF b3 hvb
      go_wp2
      go_roundw
      case rel => exact ⟨i + 1, s + rm, by go_num, by omega, by go_num, by omega, HS2, B3⟩
      case measure => simp [intOf]; omega
    · obtain rfl : i = 8 := by omega
      go_wp2
      go_ret2
      exact ⟨by rw [HS.out]; rfl, hb.out⟩
end
end Go.Proofs.YtjagonoicaelmaaGreatDoor

/- A bit of a log's page is turned. Condition: the log is in order, no failure was ever told, and the page is as it was written. -/
namespace Go.Proofs.YtjagonoicaelmaaGreatDoor
open Go.RowKit
section
variable {w : World} {g h d t : Nat} {a : At} {X : DS} {N K f e : Nat} {Bs : List LB} {num : Nat} {os : List Nat}
theorem Disk1.flip2 (h : Disk1 w d t a X N f e K) {y k x : Nat} (hy : y < N - 6) (hk : k < 8) (hx : x < 2064) :
    Calls Tryz.prog 24 #[.pointer (some ⟨a.c, 0, none⟩), .int .i64 ((X.l.at_.getD y 0 : Nat) : Int), .int .i64 (k : Int), .int .i64 (x : Int)] w fun er w' => er = .returned (.int .i64 0) ∧ ∃ X', Disk1 w' d t a X' N f e K ∧ X'.l = X.l ∧ (X'.blk y).nx = (X.blk y).nx ∧ (∀ i, (X'.blk y).pg.getD i [] = if i = k then NM.fl ((X.blk y).pg.getD k []) x else (X.blk y).pg.getD i []) ∧ (∀ z, z < N - 6 → z ≠ y → X'.blk z = X.blk z) ∧ Chg w w' (a.disk t d) := by
  have hsz := h.ok.sz
  have hn2 := h.ok.n2
  obtain ⟨_, h2, hnn, _⟩ := h.ok.good.here (x := y) (by omega)
  rw [hsz] at hnn
  obtain ⟨A, hA⟩ : ∃ A, A = X.l.at_.getD y 0 := ⟨_, rfl⟩
  have hlen := h.ok.fine.len
  refine (flip_any a X.S ((X.l.at_.getD y 0 : Nat) : Int) (k : Int) (x : Int) w h.dk.dev.pc).mono ?_
  have hap : ∀ z, z < N - 6 → z ≠ y → X.l.at_.getD z 0 ≠ A := fun z hz hzy => by rw [hA]; exact h.ok.good.apart (by omega) (by omega) hzy
  rw [← hA] at hnn h2 ⊢
  have he : X.S.flip (A : Int) (k : Int) (x : Int) = ({ X.S with bs := putPage X.S.bs A k (NM.fl (pageOf X.S.bs A k) x) }, 0) := by
    unfold Ch.flip
    rw [if_neg (by unfold Ch.flipBad; omega), Int.toNat_natCast, Int.toNat_natCast, Int.toNat_natCast]
  rw [he]
  rintro er w' ⟨rfl, hP, hc⟩
  have hd := h.dk
  have hg : a.all a.g := .inl (.inr (.inl rfl))
  have hbs : ({ X.S with bs := putPage X.S.bs A k (NM.fl (pageOf X.S.bs A k) x) } : Ch).bs = X.S.bs.set A ((X.S.bk A).setPage k (NM.fl (pageOf X.S.bs A k) x)) := rfl
  have hbk := bk_set (S := X.S) (by rw [hlen]; exact hnn) hbs
  have hp8 := h.ok.fine.oks A hnn
  have D : Dev w' a { X.S with bs := putPage X.S.bs A k (NM.fl (pageOf X.S.bs A k) x) } X.s := ⟨hP, hd.dev.pw.chg hc hd.dev.pc.pg, hd.dev.tab.chg hc (fun q => hd.dev.far _ hg q.symm), hd.dev.far, hd.dev.fits⟩
  refine ⟨rfl, ⟨{ X.S with bs := putPage X.S.bs A k (NM.fl (pageOf X.S.bs A k) x) }, X.s, X.l, X.u⟩, ⟨⟨hd.blk.chg hc (fun q => hd.da (by rw [show d = a.g from q]; exact hg)), hd.tb.chg hc (fun q => hd.tb.na (by rw [show t = a.g from q]; exact hg)), D, hd.dt, hd.da, hd.good⟩, ⟨h.ok.fine.to hnn hbs rfl (h.ok.fine.bad A) (by show ((X.S.bk A).pg.set k _).length = 8; rw [List.length_set]; exact hp8) h.ok.fine.fp h.ok.fine.fe, hsz, hn2, h.ok.good, h.ok.tab.same (fun c hc => by rw [hbk, if_neg (by omega)]), h.ok.room⟩, h.on, h.last, h.u, h.few⟩, rfl, ?_, fun i => ?_, fun z hz hzy => ?_, hc.more (fun k _ q => by rw [show k = a.g from q]; exact .inl hg)⟩
  · show ((DS.mk { X.S with bs := putPage X.S.bs A k (NM.fl (pageOf X.S.bs A k) x) } X.s X.l X.u).S.bk (X.l.at_.getD y 0)).nx = (X.S.bk (X.l.at_.getD y 0)).nx
    rw [← hA, hbk, if_pos rfl]
    rfl
  · show ((DS.mk { X.S with bs := putPage X.S.bs A k (NM.fl (pageOf X.S.bs A k) x) } X.s X.l X.u).S.bk (X.l.at_.getD y 0)).pg.getD i [] = _
    unfold DS.blk
    rw [← hA, hbk, if_pos rfl]
    show ((X.S.bk A).pg.set k _).getD i [] = _
    rw [getD_setP (by omega)]
    rfl
  · show (DS.mk { X.S with bs := putPage X.S.bs A k (NM.fl (pageOf X.S.bs A k) x) } X.s X.l X.u).S.bk (X.l.at_.getD z 0) = X.S.bk (X.l.at_.getD z 0)
    rw [hbk, if_neg (hap z hz hzy)]
/-- the pages of a log that nothing was ever told to fail for, and few calls were made of, are as they were written -/
theorem LogS.exact (l : LogS w g h d t a X N K Bs os num) (m : a.mp = none ∧ a.me = none) (hK : K < 1000) {y : Nat} {b : LB} (hb : Bs[y]? = some b) {i : Nat} (hi : i < b.pages.length) : (X.blk y).pg.getD i [] = b.pages.getD i [] := by
  obtain ⟨f, e, _, hl⟩ := l.lg.dk
  have hcl := (hl m.1 m.2).2.2.2 hK
  have hok := l.o.ok b (get_mem hb)
  have h8 := hok.le8
  have hn := (l.has y b hb).pg i hi
  have hr := hok.isRec _ (getD_mem hi)
  rcases hcl y (by have := get_lt hb; rw [l.lg.len] at this; exact this) i (by omega) with q | q
  · exfalso
    have := near_blank hr hn
    rw [q, ff_blank] at this
    cases this
  · exact near_exact q hr hn
theorem LogS.flip8 (l : LogS w g h d t a X N K Bs os num) (m : a.mp = none ∧ a.me = none) (hK : 1000 ≤ K) {y : Nat} {b : LB} (hb : Bs[y]? = some b) {k x : Nat} (hk : k < b.pages.length) (hx : x < 2064) (hex : (X.blk y).pg.getD k [] = b.pages.getD k []) :
    Calls Tryz.prog 24 #[.pointer (some ⟨a.c, 0, none⟩), .int .i64 ((y + 2 : Nat) : Int), .int .i64 (k : Int), .int .i64 (x : Int)] w fun er w' => er = .returned (.int .i64 0) ∧ ∃ X', LogS w' g h d t a X' N K Bs os num ∧ (∀ i, (X'.blk y).pg.getD i [] = if i = k then NM.fl ((X.blk y).pg.getD k []) x else (X.blk y).pg.getD i []) ∧ Chg w w' (a.disk t d) := by
  have hok := l.o.ok b (get_mem hb)
  have h8 := hok.le8
  have hy : y < N - 6 := by have := get_lt hb; rw [l.lg.len] at this; exact this
  obtain ⟨f, e, D, hl⟩ := id l.lg.dk
  obtain ⟨h1, h2, h3, _⟩ := hl m.1 m.2
  have hF := D.flip2 hy (show k < 8 by omega) hx
  rw [h3, layN_at hy] at hF
  refine hF.mono ?_
  rintro er w' ⟨rfl, X', D', q1, q2, q3, q4, hc⟩
  refine ⟨rfl, X', ⟨l.lg.disk hc ⟨f, e, D', fun _ _ => ⟨h1, h2, q1, fun q => by omega⟩⟩, l.o, fun z bz hz => ?_, l.clr⟩, q3, hc⟩
  by_cases hzy : z = y
  · subst hzy
    obtain rfl : b = bz := Option.some.inj (hb.symm.trans hz)
    have hH := l.has z b hb
    refine ⟨q2.trans hH.nx, fun i hi => ?_, fun i hi1 hi2 => ?_⟩
    · rw [q3 i]
      by_cases hik : i = k
      · subst hik
        rw [if_pos rfl, hex]
        exact .inr ⟨x, hx, rfl⟩
      · rw [if_neg hik]; exact hH.pg i hi
    · rw [q3 i, if_neg (by omega)]
      exact hH.ff i hi1 hi2
  · rw [q4 z (by have := get_lt hz; rw [l.lg.len] at this; exact this) hzy]
    exact l.has z bz hz
/-- a turned bit of a record's page must be mended; of one that is as it was written there is none -/
theorem mended_fl {q : List UInt8} (hq : IsRec q) {x : Nat} (hx : x < 2064) : (FM.readM (NM.fl q x)).2.2.1 = 1 := by
  obtain ⟨k, body, hb, h0, h1, rfl⟩ := hq
  have := FM.turn_one hb h0 h1 hx
  rw [show NM.fl (FM.page k body) x = HM.fl (FM.page k body) x from rfl, this]
theorem mended_rec {q : List UInt8} (hq : IsRec q) : (FM.readM q).2.2.1 = 0 := by
  obtain ⟨k, body, hb, h0, h1, rfl⟩ := hq
  rw [FM.turn_none hb h0 h1]
theorem mendS_congr {p q : Nat → List UInt8} : ∀ n, (∀ j, j < n → p j = q j) → mendS p n = mendS q n
  | 0, _ => rfl
  | n + 1, h => by
    unfold mendS
    rw [mendS_congr n (fun j hj => h j (by omega)), h n (Nat.lt_succ_self _)]
theorem mendS_rest {p : Nat → List UInt8} {k : Nat} : ∀ n, k ≤ n → (∀ j, k ≤ j → j < n → (FM.readM (p j)).2.2.1 = 0) → mendS p n = mendS p k
  | 0, h, _ => by rw [show k = 0 by omega]
  | n + 1, h, hr => by
    by_cases e : k = n + 1
    · rw [e]
    · unfold mendS
      rw [mendS_rest n (by omega) (fun j h1 h2 => hr j h1 (by omega)), hr n (by omega) (Nat.lt_succ_self _)]
      cases k <;> rfl
end
end Go.Proofs.YtjagonoicaelmaaGreatDoor

/- A log that is made anew over a used disk: plain facts, and its calls. Condition: the used log was in order; few calls so far. -/
namespace Go.Proofs.YtjagonoicaelmaaGreatDoor
open Go.RowKit
def emp (M : Nat) : List LB := List.replicate M (LB.fresh 2)
def emp1 (M : Nat) : List LB := (emp M).set 0 ⟨2, false, true, 1, 3, [(40, [])]⟩
theorem emp_get {M y : Nat} (h : y < M) : (emp M)[y]? = some (LB.fresh 2) := by unfold emp; rw [List.getElem?_replicate, if_pos h]
theorem emp_seg (M y : Nat) : segAt (emp M) y = false := by
  unfold segAt emp
  rw [List.getElem?_replicate]
  split <;> rfl
theorem emp_wear {M y : Nat} (h : y < M) : wearAt (emp M) y = 2 := by rw [wearAt_get (emp_get h)]; rfl
theorem emp_free (M : Nat) : ∀ k, freeTo (emp M) k = k
  | 0 => rfl
  | k + 1 => by
    unfold freeTo
    rw [emp_free M k, emp_seg, if_neg (by decide)]
theorem emp_least {M : Nat} : ∀ k, k ≤ M → leastTo (emp M) k = if k = 0 then none else some 0
  | 0, _ => rfl
  | k + 1, h => by
    rw [leastTo_succ, emp_seg, if_neg (by decide), emp_least k (by omega), if_neg (show ¬ (k + 1 = 0) by omega)]
    by_cases e : k = 0
    · subst e
      rfl
    · rw [if_neg e]
      simp only
      rw [emp_wear (by omega), emp_wear (by omega), if_neg (by omega)]
theorem emp1_at {M : Nat} (h : 0 < M) : (emp1 M)[0]? = some ⟨2, false, true, 1, 3, [(40, [])]⟩ := by
  unfold emp1
  rw [List.getElem?_set_self (by unfold emp; rw [List.length_replicate]; exact h)]
theorem emp1_length (M : Nat) : (emp1 M).length = M := by unfold emp1 emp; rw [List.length_set, List.length_replicate]
theorem own_blk4 {w : World} {b n c : Nat} {e : TypeId} {A : Option Addr} {xs : List Value} (h : w.ownsRow b e 4 (.slice A n c) n xs) (hn : 0 < n) : ∃ g E, A = some ⟨g, 0, none⟩ ∧ b ≤ g ∧ g < w.heap.size ∧ Blk w g e (xs ++ E) ∧ n ≤ c ∧ c ≤ maxLen := by
  rcases h.2 with ⟨_, h0⟩ | ⟨g, cap, cur, hv, hg, hh, hc, hm, hs, ht⟩
  · omega
  · obtain ⟨rfl, _, rfl⟩ := Value.slice.inj hv
    have hlt : g < w.heap.size := by
      rcases Nat.lt_or_ge g w.heap.size with q | q
      · exact q
      · rw [Array.getElem?_eq_none q] at hh; cases hh
    refine ⟨g, cur.toList.drop (n * 4), rfl, hg, hlt, ?_, hc, hm⟩
    rw [← ht, List.take_append_drop]
    exact hh
section
variable {w : World} {g h d t : Nat} {a : At} {X : DS} {N C : Nat} {f : Nat → LRec} {n : Nat} {Bs : List LB} {num : Nat} {os : List Nat}
/-- the log is made anew -/
theorem renew_any (l : LogS w g h d t a X N C (fillB (N - 6) f n) (fillO n) (fillN n)) (hC : C ≤ 3400) :
    Calls Tryz.prog 22 #[.pointer (some ⟨d, 0, none⟩)] w fun e w' => ∃ g2 h2 X', e = .returned (.tuple #[.pointer (some ⟨g2, 0, none⟩), .int .i64 0]) ∧ LogS w' g2 h2 d t a X' N (C + 400) (emp (N - 6)) [] 0 ∧ w.heap.size ≤ g2 ∧ w.heap.size ≤ h2 ∧ Chg w w' (a.disk t d) := by
  have htv : ∀ y, y < N - 6 → tv X y = 1 := fun y hy => by
    have hb := fillB_get (M := N - 6) f n hy
    have h1 := opened_wear (l.o.ok _ (get_mem hb)) (l.has y _ hb)
    rw [(opened_is _).2.1] at h1
    have h2 := fill_wear (M := N - 6) f n hy
    rw [wearAt_get hb] at h2
    unfold tv
    rw [h1, h2]
    rfl
  refine (new_any8 l.lg.dk (fun y hy => by rw [htv y hy]; decide) hC).mono ?_
  rintro e w' ⟨g2, h2, X', rfl, l2, q1, q2, c2⟩
  have e1 : newB X (N - 6) (N - 6) = emp (N - 6) := by
    rw [newB_full]
    unfold emp
    apply List.ext_getElem?
    intro y
    rw [List.getElem?_map, List.getElem?_replicate]
    by_cases hy : y < N - 6
    · rw [List.getElem?_range hy, if_pos hy]
      show some (LB.fresh (tv X y + 1)) = _
      rw [htv y hy]
    · rw [if_neg hy, List.getElem?_eq_none (by rw [List.length_range]; omega)]
      rfl
  rw [e1] at l2
  exact ⟨g2, h2, X', rfl, l2, q1, q2, c2⟩
/-- its first record -/
theorem emp_append (l : LogS w g h d t a X N C (emp (N - 6)) [] 0) (hC : C ≤ 3900) :
    Calls Tryz.prog 21 #[.pointer (some ⟨g, 0, none⟩), .int .u8 40, .slice none 0 0] w fun e w' => e = .returned (.tuple #[.agg #[.int .i64 0, .int .i64 2], .int .i64 0]) ∧ ∃ X', LogS w' g h d t a X' N (C + 10) (emp1 (N - 6)) [0] 1 ∧ Chg w w' (a.log t d g h) := by
  have hN := l.lg.n
  have hle := emp_least (M := N - 6) (N - 6) (Nat.le_refl _)
  rw [if_neg (by omega)] at hle
  have hr : recOk ((40 : UInt8), ([] : List (List UInt8)).flatten) := rec_one (by decide) (by decide) (by decide) (by decide) (by decide) (by simp)
  refine (append_new l (fun w' hl ho p => put_none hl ho rfl p) hle (emp_get (by omega)) (by decide) hC 40 (.slice none 0 0) [] w.heap.size (Nat.le_refl _) (Parts.nil 0) hr).mono ?_
  rintro e w' ⟨rfl, X', l', c'⟩
  rw [List.set_set] at l'
  exact ⟨rfl, X', l', c'⟩
theorem emp_segs (l : LogS w g h d t a X N C (emp (N - 6)) [] 0) :
    Calls Tryz.prog 13 #[.pointer (some ⟨g, 0, none⟩)] w fun e w' => ∃ A c, e = .returned (.slice A 0 c) ∧ Below w.heap.size w w' := by
  refine (segments_any l.lg l.o.ord (by simp)).mono ?_
  rintro e w' ⟨A, c, rs, rfl, _, _, b⟩
  exact ⟨A, c, rfl, b⟩
theorem emp_room (l : LogS w g h d t a X N C (emp (N - 6)) [] 0) :
    Calls Tryz.prog 23 #[.pointer (some ⟨g, 0, none⟩)] w fun e w' => e = .returned (.int .i64 0) ∧ Below w.heap.size w w' := room_any8 l.lg l.o
theorem emp_freeC (l : LogS w g h d t a X N C (emp (N - 6)) [] 0) :
    Calls Tryz.prog 18 #[.pointer (some ⟨g, 0, none⟩)] w fun e w' => e = .returned (.int .i64 ((N - 6 : Nat) : Int)) ∧ Below w.heap.size w w' := by
  have := free_any l.lg
  rwa [emp_free] at this
/-- one segment, block 0's, with its wear -/
theorem seg_one (l : Lg w g h d t a X N C Bs num) (o : IsOrder Bs [0]) {b : LB} (hb : Bs[0]? = some b) (hw : b.wear = 2) :
    Calls Tryz.prog 13 #[.pointer (some ⟨g, 0, none⟩)] w fun e w' => ∃ q c E r, e = .returned (.slice (some ⟨q, 0, none⟩) 1 c) ∧ Blk w' q 51 (.int .i64 0 :: .int .u64 (b.num : Int) :: .int .u64 2 :: r :: E) ∧ Below w.heap.size w w' := by
  refine (segments_any l o (by simp)).mono ?_
  rintro e w' ⟨A, c, rs, rfl, ho, hp, bb⟩
  obtain ⟨q, E, rfl, _, _, hB, _, _⟩ := own_blk4 ho (by simp)
  cases rs with
  | nil => exact absurd hp.length (by simp)
  | cons r rs =>
    have hl := hp.length
    obtain rfl : rs = [] := by simpa using hl
    refine ⟨q, c, E, r, rfl, ?_, bb⟩
    have e1 : segRows Bs [0] [r] ++ E = .int .i64 0 :: .int .u64 (b.num : Int) :: .int .u64 2 :: r :: E := by
      show [Value.int .i64 ((0 : Nat) : Int), .int .u64 (numAt Bs 0 : Int), .int .u64 (wearAt Bs 0 : Int), r] ++ [] ++ E = _
      rw [numAt_get hb, wearAt_get hb, hw]
      rfl
    rw [e1] at hB
    exact hB
end
end Go.Proofs.YtjagonoicaelmaaGreatDoor

/- The walk of LogMends: it answers true, and changes nothing that was there. Condition: the table of the check sum holds its sixteen numbers. -/
namespace Go.Proofs.YtjagonoicaelmaaGreatDoor
open Go.RowKit
theorem and_3m (z : Int) : ∃ y : Nat, bits .and .i64 z 3 = (y : Int) ∧ y < 4 := by
  have e : (BitVec.ofInt 64 z &&& BitVec.ofInt 64 3).toNat = (z % 18446744073709551616).toNat % 2 ^ 2 := by
    rw [BitVec.toNat_and, show (BitVec.ofInt 64 3).toNat = 2 ^ 2 - 1 from rfl, Nat.and_two_pow_sub_one_eq_mod, BitVec.toNat_ofInt]
    rfl
  refine ⟨(z % 18446744073709551616).toNat % 2 ^ 2, ?_, Nat.mod_lt _ (by omega)⟩
  unfold bits
  show IntKind.i64.wrap ((BitVec.ofInt 64 z &&& BitVec.ofInt 64 3).toNat : Int) = _
  rw [e, IntKind.wrap_i64]
  omega
def mendF (i : Nat) : LRec := (30, [UInt8.ofNat i])
section
variable {w : World} {g h d t : Nat} {a : At} {X : DS} {N C : Nat} {Bs : List LB} {num : Nat} {os : List Nat}
/-- the first of the segments is block 0 -/
theorem seg_zero (l : Lg w g h d t a X N C Bs num) (o : IsOrder Bs [0]) :
    Calls Tryz.prog 13 #[.pointer (some ⟨g, 0, none⟩)] w fun e w' => ∃ q c r, e = .returned (.slice (some ⟨q, 0, none⟩) 1 c) ∧ Blk w' q 51 (.int .i64 0 :: r) ∧ Below w.heap.size w w' := by
  refine (segments_any l o (by simp)).mono ?_
  rintro e w' ⟨A, c, rs, rfl, ho, hp, bb⟩
  obtain ⟨q, E, rfl, _, _, hB, _, _⟩ := own_blk4 ho (by simp)
  cases rs with
  | nil => exact absurd hp.length (by simp)
  | cons r rs =>
    have hl := hp.length
    obtain rfl : rs = [] := by simpa using hl
    exact ⟨q, c, _, rfl, hB, bb⟩
theorem segs_two (l : Lg w g h d t a X N C Bs num) {os : List Nat} (o : IsOrder Bs os) (h2 : os.length = 2) :
    Calls Tryz.prog 13 #[.pointer (some ⟨g, 0, none⟩)] w fun e w' => ∃ A c, e = .returned (.slice A 2 c) ∧ Below w.heap.size w w' := by
  refine (segments_any l o (by omega)).mono ?_
  rintro e w' ⟨A, c, rs, rfl, _, _, b⟩
  rw [h2]
  exact ⟨A, c, rfl, b⟩
/-- a log that was shut is in order -/
theorem LogS.shut8 (l : LogS w g h d t a X N C Bs os num) {x : Nat} {b : LB} (hx : os.getLast? = some x) (hb : Bs[x]? = some b) (hs : b.seg = true) :
    Calls Tryz.prog 26 #[.pointer (some ⟨g, 0, none⟩)] w fun e w' => e = .returned (.tuple #[]) ∧ LogS w' g h d t a X N C (Bs.set x { b with next := 8 }) os num ∧ Chg w w' (fun j => j = h) := by
  refine (shut_any8 l.lg l.o).mono ?_
  rintro e w' ⟨rfl, l', c⟩
  have e1 : shutS Bs os = Bs.set x { b with next := 8 } := by
    unfold shutS
    rw [hx]
    simp only [Option.bind_some, hb, Option.map_some]
    rfl
  rw [e1] at l'
  have hok := l.o.ok b (get_mem hb)
  have hok' : LB.ok { b with next := 8 } := ⟨hok.wear, hok.num, hok.recs, hok.kinds, hok.free, fun _ => .inr rfl⟩
  refine ⟨rfl, ⟨l', ⟨fun q hq => ?_, l.o.ord.keep hb rfl rfl, fun q hq => ?_⟩, fun y q hq => ?_, l.clr.set (fun q => by rw [show ({ b with next := 8 } : LB).seg = b.seg from rfl, hs] at q; cases q)⟩, c⟩
  · rcases mem_set hq with rfl | hq
    · exact hok'
    · exact l.o.ok q hq
  · rcases mem_set hq with rfl | hq
    · exact fun _ => l.o.le b (get_mem hb) hs
    · exact l.o.le q hq
  · rcases get_set (get_lt hb) hq with ⟨rfl, rfl⟩ | ⟨_, hq⟩
    · exact l.has y b hb
    · exact l.has y q hq
end
end Go.Proofs.YtjagonoicaelmaaGreatDoor


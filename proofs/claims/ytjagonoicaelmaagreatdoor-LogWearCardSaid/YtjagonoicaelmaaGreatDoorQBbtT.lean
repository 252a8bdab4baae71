/- Several texts of the proof, joined: what each has is said at its head. -/
import Derived.Test.YtjagonoicaelmaaGreatDoorQBbtR
import Derived.Test.YtjagonoicaelmaaGreatDoorQNandF
/- What the calls do on a chip of which nothing fails, and what is found where bits are turned: the plain facts. -/
namespace Go.Proofs.YtjagonoicaelmaaGreatDoor
open Go.RowKit
section
variable {S : Ch} {s : NM.Pwr} {o k : Nat} {l : Lay}
theorem calm_doing (hc : Calm S s) (hK : Keeps S o k l) (hg : l.good) (hn : l.n = S.bs.length) (hk : k < 1000) (op : Op5) (b : Int) (hcan : l.can op b = true) : ∃ S', S.doing s l op b = (S', s, 0) ∧ Calm S' s ∧ Keeps S' (1 - o) (k + 1) (l.next op b) ∧ S.doLay s l op b = l.next op b ∧ S'.bs.length = S.bs.length := by
  have hgn := (good_next hg op b).1
  have hnx : l.next op b = if op.lose then l.setLost b.toNat else l.swap op.l.toNat b.toNat := by unfold Lay.next; rw [if_pos hcan]
  obtain ⟨S', e, c1, K1, h1, _⟩ := hK.keep hg hn (by omega) hc (l' := l.next op b) hgn.ok
  have hk1 : next64 k = k + 1 := by unfold next64; omega
  rw [hk1] at K1
  refine ⟨S', ?_, c1, K1, ?_, h1⟩
  · unfold Ch.doing Ch.losing Ch.swapping
    unfold Lay.can at hcan
    by_cases hl : op.lose = true
    · rw [if_pos hl] at hcan hnx ⊢
      rw [if_pos hcan, ← hnx, e]
    · rw [if_neg hl] at hcan hnx ⊢
      rw [if_pos hcan, ← hnx, e]
  · have hy : S.lays s l (l.next op b) = l.next op b := by unfold Ch.lays; rw [e]; exact if_pos rfl
    unfold Ch.doLay Ch.lostLay Ch.swapLay
    unfold Lay.can at hcan
    by_cases hl : op.lose = true
    · rw [if_pos hl] at hcan ⊢
      rw [if_pos hl] at hnx
      rw [if_pos hcan, ← hnx, hy]
    · rw [if_neg hl] at hcan ⊢
      rw [if_neg hl] at hnx
      rw [if_pos hcan, ← hnx, hy]
theorem cannot_doing (op : Op5) (b : Int) (hcan : l.can op b = false) : S.doing s l op b = (S, s, 1) ∧ S.doLay s l op b = l ∧ l.next op b = l := by
  have hc' : ¬ l.can op b = true := by rw [hcan]; decide
  refine ⟨?_, ?_, if_neg hc'⟩
  · unfold Ch.doing Ch.losing Ch.swapping
    unfold Lay.can at hc'
    by_cases hl : op.lose = true
    · rw [if_pos hl] at hc' ⊢
      exact if_neg hc'
    · rw [if_neg hl] at hc' ⊢
      exact if_neg hc'
  · unfold Ch.doLay Ch.lostLay Ch.swapLay
    unfold Lay.can at hc'
    by_cases hl : op.lose = true
    · rw [if_pos hl] at hc' ⊢
      exact if_neg hc'
    · rw [if_neg hl] at hc' ⊢
      exact if_neg hc'
/-- of the first i pages of the table's own blocks one bit each is turned -/
structure Turned (S0 S : Ch) (i : Nat) : Prop where
  len : S.bs.length = S0.bs.length
  live : S.live = S0.live
  page : ∀ q, q < 16 → (q < i → ∃ x, x < 2064 ∧ pageOf S.bs (q / 8) (q % 8) = NM.fl (pageOf S0.bs (q / 8) (q % 8)) x) ∧ (i ≤ q → pageOf S.bs (q / 8) (q % 8) = pageOf S0.bs (q / 8) (q % 8))
  pgs : ∀ b, b < 2 → (S.bs.getD b ⟨[], 0, false⟩).pg.length = 8
theorem Turned.zero (hc : Calm S s) : Turned S S 0 := ⟨rfl, rfl, fun _ _ => ⟨fun h => by omega, fun _ => rfl⟩, hc.oks⟩
theorem Turned.more {S0 : Ch} {i : Nat} (h : Turned S0 S i) (hi : 16 ≤ i) : Turned S0 S (i + 1) := ⟨h.len, h.live, fun q hq => ⟨fun _ => (h.page q hq).1 (by omega), fun hh => by omega⟩, h.pgs⟩
theorem Turned.flip {S0 : Ch} {i x : Nat} (h : Turned S0 S i) (hi : i < 16) (hx : x < 2064) (hl : 16 ≤ S.bs.length) : Turned S0 (S.flip ((i / 8 : Nat) : Int) ((i % 8 : Nat) : Int) (x : Int)).1 (i + 1) := by
  have hb : ¬ S.flipBad ((i / 8 : Nat) : Int) ((i % 8 : Nat) : Int) (x : Int) := by unfold Ch.flipBad; omega
  have he : (S.flip ((i / 8 : Nat) : Int) ((i % 8 : Nat) : Int) (x : Int)).1 = { S with bs := putPage S.bs (i / 8) (i % 8) (NM.fl (pageOf S.bs (i / 8) (i % 8)) x) } := by
    unfold Ch.flip
    rw [if_neg hb, Int.toNat_natCast, Int.toNat_natCast, Int.toNat_natCast]
  rw [he]
  have hp : ∀ q, q < 16 → pageOf (putPage S.bs (i / 8) (i % 8) (NM.fl (pageOf S.bs (i / 8) (i % 8)) x)) (q / 8) (q % 8) = if q = i then NM.fl (pageOf S.bs (i / 8) (i % 8)) x else pageOf S.bs (q / 8) (q % 8) := fun q hq => by
    unfold putPage
    show ((List.set S.bs _ _).getD (q / 8) ⟨[], 0, false⟩).pg.getD (q % 8) [] = _
    rw [getD_set2 (by omega)]
    by_cases c : q / 8 = i / 8
    · rw [if_pos c]
      show ((S.bs.getD (i / 8) ⟨[], 0, false⟩).pg.set (i % 8) _).getD (q % 8) [] = _
      rw [List.getD_eq_getElem?_getD, List.getElem?_set]
      by_cases d : i % 8 = q % 8
      · rw [if_pos d, if_pos (by rw [h.pgs _ (by omega)]; omega), if_pos (by omega)]
        rfl
      · rw [if_neg d, if_neg (by omega), ← List.getD_eq_getElem?_getD, ← c]
        rfl
    · rw [if_neg c, if_neg (by omega)]
      rfl
  refine ⟨by show (List.set _ _ _).length = _; rw [List.length_set]; exact h.len, h.live, fun q hq => ?_, fun b hb => ?_⟩
  · show (q < i + 1 → ∃ x', x' < 2064 ∧ pageOf (putPage S.bs (i / 8) (i % 8) (NM.fl (pageOf S.bs (i / 8) (i % 8)) x)) (q / 8) (q % 8) = _) ∧ (i + 1 ≤ q → pageOf (putPage S.bs (i / 8) (i % 8) (NM.fl (pageOf S.bs (i / 8) (i % 8)) x)) (q / 8) (q % 8) = _)
    rw [hp q hq]
    by_cases c : q = i
    · subst c
      rw [if_pos rfl]
      exact ⟨fun _ => ⟨x, hx, by rw [(h.page q hq).2 (Nat.le_refl _)]⟩, fun hh => by omega⟩
    · rw [if_neg c]
      exact ⟨fun hh => (h.page q hq).1 (by omega), fun hh => (h.page q hq).2 (by omega)⟩
  · show ((List.set S.bs _ _).getD b ⟨[], 0, false⟩).pg.length = 8
    rw [getD_set2 (by omega)]
    split
    · show (List.set _ _ _).length = 8
      rw [List.length_set]
      exact h.pgs _ (by omega)
    · exact h.pgs b hb
theorem fl_ff_torn (x : Nat) (n : Nat) : tableOf n (NM.fl NM.ff x) = none := tableOf_torn (FM.flip_last NM.ff_length x (by decide))
theorem Turned.look {S0 : Ch} {i : Nat} (h : Turned S0 S i) (hK : Keeps S0 o k l) (hg : l.good) (hn : l.n = S.bs.length) (hk : k < 1000) : ∃ pg, lookTo S.bs 16 = some ⟨k, l, o, pg⟩ := by
  have ho := hK.lt
  have e1 : o * 8 / 8 = o := by omega
  have e2 : o * 8 % 8 = 0 := by omega
  have hp0 : pageOf S0.bs o 0 = tpage k l := by unfold pageOf; rw [hK.here]; rfl
  have h0 : tableOf S.bs.length (pageOf S.bs (o * 8 / 8) (o * 8 % 8)) = some (k, l) := by
    have hq := h.page (o * 8) (by omega)
    rw [e1, e2] at hq ⊢
    rw [hp0] at hq
    rcases Nat.lt_or_ge (o * 8) i with c | c
    · obtain ⟨x, hx, e⟩ := hq.1 c
      rw [e]
      exact tableOf_turned hg hn (by omega) hx
    · rw [hq.2 c]
      exact tableOf_tpage hg hn (by omega)
  have := lookTo_only (bs := S.bs) (i0 := o * 8) k l h0 (fun q h1 h2 => by
    have hff : pageOf S0.bs (q / 8) (q % 8) = NM.ff := by
      unfold pageOf
      by_cases c : q / 8 = o
      · rw [c, hK.here, page_first (by omega), if_neg (by omega)]
      · rw [show q / 8 = 1 - o by omega, hK.there, ff_pages (by omega)]
    have hq := h.page q h1
    rw [hff] at hq
    rcases Nat.lt_or_ge q i with c | c
    · obtain ⟨x, _, e⟩ := hq.1 c
      rw [e]
      exact fl_ff_torn x _
    · rw [hq.2 c]
      exact tableOf_ff) 16 (Nat.le_refl _)
  rw [this, if_pos (by omega), e1, e2]
  exact ⟨_, rfl⟩
end
end Go.Proofs.YtjagonoicaelmaaGreatDoor

/- What keep does on a chip of which nothing fails, where the power may end: the plain facts. -/
namespace Go.Proofs.YtjagonoicaelmaaGreatDoor
open Go.RowKit
/-- nothing fails, the chip answers -/
structure CalmP (S : Ch) : Prop where
  fp : ∀ i, S.fp i = false
  fe : ∀ i, S.fe i = false
  live : S.live = true
  len : 16 ≤ S.bs.length
  good : ∀ b, b < 2 → (S.bs.getD b ⟨[], 0, false⟩).bad = false
  oks : ∀ b, b < 2 → (S.bs.getD b ⟨[], 0, false⟩).pg.length = 8
section
variable {S : Ch} {s : NM.Pwr}
theorem CalmP.to (h : CalmP S) {S' : Ch} {b : Nat} {X : Bk} (hb : b < 2) (e : S'.bs = S.bs.set b X) (h1 : S'.fp = S.fp) (h2 : S'.fe = S.fe) (h3 : S'.live = S.live) (hx : X.bad = false) (hp : X.pg.length = 8) : CalmP S' := by
  have hl := h.len
  refine ⟨by rw [h1]; exact h.fp, by rw [h2]; exact h.fe, by rw [h3]; exact h.live, by rw [e, List.length_set]; exact hl, fun c hc => ?_, fun c hc => ?_⟩
  · rw [e, getD_set2 (by omega)]
    split
    · exact hx
    · exact h.good c hc
  · rw [e, getD_set2 (by omega)]
    split
    · exact hp
    · exact h.oks c hc
theorem CalmP.erase (h : CalmP S) (ho : s.off = false) {s1 : NM.Pwr} (ha : s.act = (s1, false)) {b : Nat} (hb : b < 2) : ∃ S', S.erase (b : Int) s = (S', s1, 0) ∧ CalmP S' ∧ S'.bs = S.bs.set b Bk.blank := by
  have hl := h.len
  have hm : NM.may s.off S.live (S.bs.length : Int) (b : Int) 0 = 0 := may_here (k := 0) ho h.live (by omega) (by omega)
  have hx := h.good b hb
  have hp := h.oks b hb
  obtain ⟨X, hX⟩ : ∃ X, X = S.bs.getD b ⟨[], 0, false⟩ := ⟨_, rfl⟩
  have hxb : X.bad = false := by rw [hX]; exact hx
  have e1 : (S.setNext b 8).bs = S.bs.set b (X.setNext 8) := by rw [hX]; rfl
  have e2 : (S.setNext b 8).bs.getD b ⟨[], 0, false⟩ = X.setNext 8 := by rw [e1, getD_set2 (by omega), if_pos rfl]
  have hA : (S.setNext b 8).actE b s = ({ S with cnt := S.cnt + 1, de := S.de + 1, bs := S.bs.set b ⟨List.replicate 8 NM.ff, 8, false⟩ }, 0) := by
    unfold Ch.actE
    rw [ha, e2]
    show (({ (S.setNext b 8) with cnt := S.cnt + 1, de := S.de + 1, bs := wipeB (S.setNext b 8).bs b (actN false (S.fe S.de) X.bad s.keep 8 0).1 } : Ch), (actN false (S.fe S.de) X.bad s.keep 8 0).2) = _
    rw [h.fe, hxb]
    show (({ (S.setNext b 8) with cnt := S.cnt + 1, de := S.de + 1, bs := wipeB (S.setNext b 8).bs b 8 } : Ch), (0 : Int)) = _
    unfold wipeB
    rw [e2, e1, List.set_set]
    have : (wipP 8 (X.setNext 8).pg) = List.replicate 8 NM.ff := by
      show List.replicate (min 8 X.pg.length) NM.ff ++ X.pg.drop 8 = _
      rw [← hX] at hp
      rw [hp, List.drop_eq_nil_of_le (Nat.le_of_eq hp), List.append_nil]
      rfl
    rw [this]
    have hbad : (X.setNext 8).bad = false := by rw [hX]; exact hx
    show (({ S with cnt := S.cnt + 1, de := S.de + 1, bs := S.bs.set b ⟨List.replicate 8 NM.ff, 8, (X.setNext 8).bad⟩ } : Ch), (0 : Int)) = _
    rw [hbad]
  have he : S.erase (b : Int) s = ((({ S with cnt := S.cnt + 1, de := S.de + 1, bs := S.bs.set b ⟨List.replicate 8 NM.ff, 8, false⟩ } : Ch)).setNext b 0, s1, 0) := by
    unfold Ch.erase
    rw [if_neg (by rw [hm]; simp), Int.toNat_natCast, hA, if_pos rfl, ha]
  have hbs : ((({ S with cnt := S.cnt + 1, de := S.de + 1, bs := S.bs.set b ⟨List.replicate 8 NM.ff, 8, false⟩ } : Ch)).setNext b 0).bs = S.bs.set b Bk.blank := by
    show (S.bs.set b ⟨List.replicate 8 NM.ff, 8, false⟩).set b (((S.bs.set b ⟨List.replicate 8 NM.ff, 8, false⟩).getD b ⟨[], 0, false⟩).setNext 0) = _
    rw [getD_set2 (by omega), if_pos rfl, List.set_set]
    rfl
  exact ⟨_, he, h.to hb hbs rfl rfl rfl rfl (by decide), hbs⟩
theorem CalmP.program (h : CalmP S) (ho : s.off = false) {s1 : NM.Pwr} (ha : s.act = (s1, false)) {b : Nat} (hb : b < 2) (hB : S.bs.getD b ⟨[], 0, false⟩ = Bk.blank) {d : List UInt8} (hd : d.length = 258) : ∃ S', S.program (b : Int) 0 d s = (S', s1, 0) ∧ CalmP S' ∧ S'.bs = S.bs.set b ⟨d :: List.replicate 7 NM.ff, 1, false⟩ := by
  have hl := h.len
  have hm : NM.may s.off S.live (S.bs.length : Int) (b : Int) 0 = 0 := may_here (k := 0) ho h.live (by omega) (by omega)
  have hn : S.nextOf b = 0 := by unfold Ch.nextOf; rw [hB]; rfl
  have e1 : (S.setNext b 1).bs = S.bs.set b (Bk.blank.setNext 1) := by unfold Ch.setNext; rw [hB]
  have e2 : (S.setNext b 1).bs.getD b ⟨[], 0, false⟩ = Bk.blank.setNext 1 := by rw [e1, getD_set2 (by omega), if_pos rfl]
  have e3 : pageOf (S.setNext b 1).bs b 0 = NM.ff := by unfold pageOf; rw [e2]; rfl
  have hbad : (Bk.blank.setNext 1).bad = false := rfl
  have hA : (S.setNext b 1).actP b 0 d s = ({ S with cnt := S.cnt + 1, dp := S.dp + 1, bs := S.bs.set b ⟨d :: List.replicate 7 NM.ff, 1, false⟩ }, 0) := by
    unfold Ch.actP
    rw [ha, e2, e3, hbad]
    show (({ (S.setNext b 1) with cnt := S.cnt + 1, dp := S.dp + 1, bs := putPage (S.setNext b 1).bs b 0 (NM.wr (actN false (S.fp S.dp) false s.keep 258 129).1 NM.ff d) } : Ch), (actN false (S.fp S.dp) false s.keep 258 129).2) = _
    rw [h.fp]
    show (({ (S.setNext b 1) with cnt := S.cnt + 1, dp := S.dp + 1, bs := putPage (S.setNext b 1).bs b 0 (NM.wr 258 NM.ff d) } : Ch), (0 : Int)) = _
    rw [wr_all hd]
    unfold putPage
    rw [e2, e1, List.set_set]
    rfl
  have he : S.program (b : Int) 0 d s = (({ S with cnt := S.cnt + 1, dp := S.dp + 1, bs := S.bs.set b ⟨d :: List.replicate 7 NM.ff, 1, false⟩ } : Ch), s1, 0) := by
    unfold Ch.program
    rw [if_neg (by rw [hm]; simp), Int.toNat_natCast, hn, if_neg (by simp)]
    show (((S.setNext b 1).actP b 0 d s).1, s.act.1, ((S.setNext b 1).actP b 0 d s).2) = _
    rw [hA, ha]
  exact ⟨_, he, h.to hb rfl rfl rfl rfl rfl (by simp), rfl⟩
theorem actN_ends (bad : Bool) (fails : Bool) (keep : Int) (whole failed : Nat) : ∃ n, n ≤ whole ∧ actN true fails bad keep whole failed = (n, 30) := ⟨(min (max keep 0) (whole : Int)).toNat, by omega, rfl⟩
/-- an Erase in which the power ends: the first pages are blank, the others as they were -/
theorem CalmP.eraseCut (h : CalmP S) (ho : s.off = false) (ha : s.act.2 = true) {b : Nat} (hb : b < 2) : ∃ S' n, n ≤ 8 ∧ S.erase (b : Int) s = (S', s.act.1, 30) ∧ CalmP S' ∧ S'.bs = S.bs.set b ⟨wipP n (S.bs.getD b ⟨[], 0, false⟩).pg, 8, false⟩ := by
  have hl := h.len
  have hm : NM.may s.off S.live (S.bs.length : Int) (b : Int) 0 = 0 := may_here (k := 0) ho h.live (by omega) (by omega)
  have hx := h.good b hb
  have hp := h.oks b hb
  obtain ⟨X, hX⟩ : ∃ X, X = S.bs.getD b ⟨[], 0, false⟩ := ⟨_, rfl⟩
  rw [← hX] at hx hp ⊢
  have e1 : (S.setNext b 8).bs = S.bs.set b (X.setNext 8) := by rw [hX]; rfl
  have e2 : (S.setNext b 8).bs.getD b ⟨[], 0, false⟩ = X.setNext 8 := by rw [e1, getD_set2 (by omega), if_pos rfl]
  obtain ⟨n, hn, hq⟩ := actN_ends (X.setNext 8).bad (S.fe S.de) s.keep 8 0
  have hA : (S.setNext b 8).actE b s = ({ S with cnt := S.cnt + 1, de := S.de + 1, bs := S.bs.set b ⟨wipP n X.pg, 8, false⟩ }, 30) := by
    unfold Ch.actE
    rw [ha, e2]
    show (({ (S.setNext b 8) with cnt := S.cnt + 1, de := S.de + 1, bs := wipeB (S.setNext b 8).bs b (actN true (S.fe S.de) (X.setNext 8).bad s.keep 8 0).1 } : Ch), (actN true (S.fe S.de) (X.setNext 8).bad s.keep 8 0).2) = _
    rw [hq]
    unfold wipeB
    rw [e2, e1, List.set_set]
    have hbad : (X.setNext 8).bad = false := hx
    show (({ S with cnt := S.cnt + 1, de := S.de + 1, bs := S.bs.set b ⟨wipP n X.pg, 8, (X.setNext 8).bad⟩ } : Ch), (30 : Int)) = _
    rw [hbad]
  refine ⟨_, n, hn, ?_, h.to hb (S' := { S with cnt := S.cnt + 1, de := S.de + 1, bs := S.bs.set b ⟨wipP n X.pg, 8, false⟩ }) rfl rfl rfl rfl rfl ?_, rfl⟩
  · unfold Ch.erase
    rw [if_neg (by rw [hm]; simp), Int.toNat_natCast, hA, if_neg (by simp)]
  · show (List.replicate (min n X.pg.length) NM.ff ++ X.pg.drop n).length = 8
    rw [List.length_append, List.length_replicate, List.length_drop]
    omega
/-- a Program in which the power ends: so many bytes are written -/
theorem CalmP.programCut (h : CalmP S) (ho : s.off = false) (ha : s.act.2 = true) {b : Nat} (hb : b < 2) (hB : S.bs.getD b ⟨[], 0, false⟩ = Bk.blank) (d : List UInt8) : ∃ S' n, n ≤ 258 ∧ S.program (b : Int) 0 d s = (S', s.act.1, 30) ∧ CalmP S' ∧ S'.bs = S.bs.set b ⟨NM.wr n NM.ff d :: List.replicate 7 NM.ff, 1, false⟩ := by
  have hl := h.len
  have hm : NM.may s.off S.live (S.bs.length : Int) (b : Int) 0 = 0 := may_here (k := 0) ho h.live (by omega) (by omega)
  have hn : S.nextOf b = 0 := by unfold Ch.nextOf; rw [hB]; rfl
  have e1 : (S.setNext b 1).bs = S.bs.set b (Bk.blank.setNext 1) := by unfold Ch.setNext; rw [hB]
  have e2 : (S.setNext b 1).bs.getD b ⟨[], 0, false⟩ = Bk.blank.setNext 1 := by rw [e1, getD_set2 (by omega), if_pos rfl]
  have e3 : pageOf (S.setNext b 1).bs b 0 = NM.ff := by unfold pageOf; rw [e2]; rfl
  obtain ⟨n, hn2, hq⟩ := actN_ends (Bk.blank.setNext 1).bad (S.fp S.dp) s.keep 258 129
  have hA : (S.setNext b 1).actP b 0 d s = ({ S with cnt := S.cnt + 1, dp := S.dp + 1, bs := S.bs.set b ⟨NM.wr n NM.ff d :: List.replicate 7 NM.ff, 1, false⟩ }, 30) := by
    unfold Ch.actP
    rw [ha, e2, e3]
    show (({ (S.setNext b 1) with cnt := S.cnt + 1, dp := S.dp + 1, bs := putPage (S.setNext b 1).bs b 0 (NM.wr (actN true (S.fp S.dp) (Bk.blank.setNext 1).bad s.keep 258 129).1 NM.ff d) } : Ch), (actN true (S.fp S.dp) (Bk.blank.setNext 1).bad s.keep 258 129).2) = _
    rw [hq]
    unfold putPage
    rw [e2, e1, List.set_set]
    rfl
  refine ⟨_, n, hn2, ?_, h.to hb (S' := { S with cnt := S.cnt + 1, dp := S.dp + 1, bs := S.bs.set b ⟨NM.wr n NM.ff d :: List.replicate 7 NM.ff, 1, false⟩ }) rfl rfl rfl rfl rfl (by simp), rfl⟩
  unfold Ch.program
  rw [if_neg (by rw [hm]; simp), Int.toNat_natCast, hn, if_neg (by simp)]
  show (((S.setNext b 1).actP b 0 d s).1, s.act.1, ((S.setNext b 1).actP b 0 d s).2) = _
  rw [hA]
end
/-- one table counts: it stands in block o, with the number k; in the other block there may be one that counts less -/
structure Two2 (S : Ch) (o k : Nat) (l : Lay) : Prop where
  lt : o < 2
  here : tableOf S.bs.length (pageOf S.bs o 0) = some (k, l)
  rest : ∀ j, 1 ≤ j → j < 8 → tableOf S.bs.length (pageOf S.bs o j) = none
  other : tableOf S.bs.length (pageOf S.bs (1 - o) 0) = none ∨ ∃ l', tableOf S.bs.length (pageOf S.bs (1 - o) 0) = some (k + 1, l')
  others : ∀ j, 1 ≤ j → j < 8 → tableOf S.bs.length (pageOf S.bs (1 - o) j) = none
theorem Two2.look {S : Ch} {o k : Nat} {l : Lay} (h : Two2 S o k l) : ∃ pg, lookTo S.bs 16 = some ⟨k, l, o, pg⟩ := by
  have hlt := h.lt
  have hT : ∀ i, i < 16 → i ≠ o * 8 → i ≠ (1 - o) * 8 → tableOf S.bs.length (pageOf S.bs (i / 8) (i % 8)) = none := fun i h1 h2 h3 => by
    by_cases c : i / 8 = o
    · rw [c]; exact h.rest _ (by omega) (by omega)
    · rw [show i / 8 = 1 - o by omega]; exact h.others _ (by omega) (by omega)
  rcases h.other with ho | ⟨l', ho⟩
  · have := lookTo_only (bs := S.bs) (i0 := o * 8) k l (by rw [show o * 8 / 8 = o by omega, show o * 8 % 8 = 0 by omega]; exact h.here) (fun i h1 h2 => by
      by_cases c : i = (1 - o) * 8
      · rw [c, show (1 - o) * 8 / 8 = 1 - o by omega, show (1 - o) * 8 % 8 = 0 by omega]; exact ho
      · exact hT i h1 h2 c) 16 (Nat.le_refl _)
    rw [this, if_pos (by omega), show o * 8 / 8 = o by omega]
    exact ⟨_, rfl⟩
  · have hm : ∀ m, m ≤ 16 → lookTo S.bs m = if o * 8 < m then some ⟨k, l, o, pageOf S.bs o 0⟩ else if (1 - o) * 8 < m then some ⟨k + 1, l', 1 - o, pageOf S.bs (1 - o) 0⟩ else none := fun m => by
      induction m with
      | zero => intro _; rw [if_neg (by omega), if_neg (by omega)]; rfl
      | succ m ih =>
        intro hm
        show lookAt S.bs.length S.bs (lookTo S.bs m) (m / 8) (m % 8) = _
        unfold lookAt
        rw [ih (by omega)]
        by_cases c : m = o * 8
        · subst c
          rw [show o * 8 / 8 = o by omega, show o * 8 % 8 = 0 by omega, h.here, if_neg (show ¬ o * 8 < o * 8 by omega), if_pos (show o * 8 < o * 8 + 1 by omega)]
          by_cases c2 : (1 - o) * 8 < o * 8
          · rw [if_pos c2]
            unfold pickK
            simp
          · rw [if_neg c2]; rfl
        · by_cases c3 : m = (1 - o) * 8
          · subst c3
            rw [show (1 - o) * 8 / 8 = 1 - o by omega, show (1 - o) * 8 % 8 = 0 by omega, ho]
            by_cases c2 : o * 8 < (1 - o) * 8
            · rw [if_pos c2, if_pos (show o * 8 < (1 - o) * 8 + 1 by omega)]
              unfold pickK
              simp
            · rw [if_neg c2, if_neg (show ¬ (1 - o) * 8 < (1 - o) * 8 by omega), if_neg (show ¬ o * 8 < (1 - o) * 8 + 1 by omega), if_pos (show (1 - o) * 8 < (1 - o) * 8 + 1 by omega)]
              rfl
          · rw [hT m (by omega) c c3]
            show (if o * 8 < m then _ else _) = _
            by_cases a1 : o * 8 < m
            · rw [if_pos a1, if_pos (show o * 8 < m + 1 by omega)]
            · rw [if_neg a1, if_neg (show ¬ o * 8 < m + 1 by omega)]
              by_cases a2 : (1 - o) * 8 < m
              · rw [if_pos a2, if_pos (show (1 - o) * 8 < m + 1 by omega)]
              · rw [if_neg a2, if_neg (show ¬ (1 - o) * 8 < m + 1 by omega)]
    rw [hm 16 (Nat.le_refl _), if_pos (by omega)]
    exact ⟨_, rfl⟩
theorem wipP_page {P : List (List UInt8)} {n j : Nat} (hP : P.length = 8) (hn : n ≤ 8) : (wipP n P).getD j [] = if j < n then NM.ff else P.getD j [] := by
  unfold wipP
  rw [hP, Nat.min_eq_left hn, List.getD_eq_getElem?_getD]
  by_cases c : j < n
  · rw [if_pos c, List.getElem?_append_left (by simpa using c), List.getElem?_replicate, if_pos c]
    rfl
  · rw [if_neg c, List.getElem?_append_right (by simp; omega), List.length_replicate, List.getElem?_drop, show n + (j - n) = j by omega, List.getD_eq_getElem?_getD]
/-- a page written in part is torn, or whole -/
theorem wr_part {n : Nat} {d : List UInt8} (hd : d.length = 258) (hn : n ≤ 258) : (NM.wr n NM.ff d).getD 257 0 = 255 ∨ NM.wr n NM.ff d = d := by
  rcases Nat.lt_or_ge n 258 with c | c
  · left
    rw [List.getD_eq_getElem?_getD, NM.wr_get, show NM.ff[257]? = some 255 by decide, Option.map_some, if_neg (by omega)]
    rfl
  · right
    rw [show n = 258 by omega]
    exact wr_all hd
theorem page_of {bs : List Bk} {b j : Nat} {X : Bk} (h : bs.getD b ⟨[], 0, false⟩ = X) : pageOf bs b j = X.pg.getD j [] := by unfold pageOf; rw [h]
theorem act_on {s : NM.Pwr} (ho : s.off = false) (h : s.act.2 = false) : s.act.1.off = false := by
  unfold NM.Pwr.act at h ⊢
  split
  · exact ho
  · rename_i c
    rw [if_neg c] at h
    exact h
theorem act_eq {s : NM.Pwr} (h : s.act.2 = false) : s.act = (s.act.1, false) := by rw [← h]
/-- behind keep, wherever the power ends in it: the elder table, or the new one, whole -/
theorem Two2.keep {S : Ch} {s : NM.Pwr} {o k : Nat} {l l' : Lay} (h : Two2 S o k l) (hc : CalmP S) (ho : s.off = false) (hk : k < 1000) (hg : l'.good) (hn : l'.n = S.bs.length) :
    ∃ S' s' e, S.keep s l' = (S', s', e) ∧ CalmP S' ∧ S'.bs.length = S.bs.length ∧ ((e = 0 ∧ s'.off = false ∧ Two2 S' (1 - o) (k + 1) l') ∨ (e = 30 ∧ (Two2 S' o k l ∨ Two2 S' (1 - o) (k + 1) l'))) := by
  have hlt := h.lt
  have hl := hc.len
  obtain ⟨pg, hlk⟩ := h.look
  have hm : S.mayE s = 0 := may_here (b := 0) (k := 0) ho hc.live (by omega) (by omega)
  have hK : S.lookK s = some ⟨k, l, o, pg⟩ := by unfold Ch.lookK; rw [if_pos hm, hlk]
  have hE : S.lookE s = 0 := by unfold Ch.lookE; rw [if_pos hm, hlk]; rfl
  have hk1 : next64 k = k + 1 := by unfold next64; omega
  have hd : (tpage (k + 1) l').length = 258 := tpage_length hg.ok
  have htb : tableOf S.bs.length (tpage (k + 1) l') = some (k + 1, l') := tableOf_tpage hg hn (by omega)
  obtain ⟨d, hdd⟩ : ∃ d, d = tpage (k + 1) l' := ⟨_, rfl⟩
  have hkeep : S.keep s l' = if (S.place s ((1 - o : Nat) : Int) d).2.2 ≠ 0 then S.place s ((1 - o : Nat) : Int) d else Ch.wipes 8 (S.place s ((1 - o : Nat) : Int) d).1 (S.place s ((1 - o : Nat) : Int) d).2.1 (o : Int) := by
    unfold Ch.keep
    rw [hK, hE]
    show (if ((0 : Int) ≠ 0 ∧ (0 : Int) ≠ 35) then _ else if (S.place s (1 - (o : Int)) (tpage (next64 k) l')).2.2 ≠ 0 then S.place s (1 - (o : Int)) (tpage (next64 k) l') else Ch.wipes 8 (S.place s (1 - (o : Int)) (tpage (next64 k) l')).1 (S.place s (1 - (o : Int)) (tpage (next64 k) l')).2.1 (o : Int)) = _
    rw [if_neg (by simp), hk1, ← hdd, show (1 - (o : Int)) = ((1 - o : Nat) : Int) by omega]
  rw [← hdd] at hd htb
  rw [hkeep]
  clear hkeep hK hE hm hlk
  by_cases a1 : s.act.2 = true
  · obtain ⟨S1, n, hn8, e1, c1, b1⟩ := hc.eraseCut ho a1 (b := 1 - o) (by omega)
    have hw : Ch.wipes 8 S s ((1 - o : Nat) : Int) = (S1, s.act.1, 30) := by unfold Ch.wipes; rw [e1, if_neg (by simp)]
    have hp : S.place s ((1 - o : Nat) : Int) d = (S1, s.act.1, 30) := by unfold Ch.place; rw [hw, if_neg (by simp)]
    have hL : S1.bs.length = S.bs.length := by rw [b1, List.length_set]
    have go : ∀ j, pageOf S1.bs o j = pageOf S.bs o j := fun j => by unfold pageOf; rw [b1, getD_set2 (by omega), if_neg (by omega)]
    have gb : ∀ j, j < 8 → pageOf S1.bs (1 - o) j = if j < n then NM.ff else pageOf S.bs (1 - o) j := fun j _ => by
      rw [page_of (X := ⟨wipP n (S.bs.getD (1 - o) ⟨[], 0, false⟩).pg, 8, false⟩) (by rw [b1, getD_set2 (by omega), if_pos rfl])]
      exact wipP_page (hc.oks _ (by omega)) hn8
    rw [hp]
    refine ⟨S1, s.act.1, 30, rfl, c1, hL, .inr ⟨rfl, .inl ⟨hlt, by rw [hL, go]; exact h.here, fun j j1 j2 => by rw [hL, go]; exact h.rest j j1 j2, ?_, fun j j1 j2 => ?_⟩⟩⟩
    · rw [hL, gb 0 (by omega)]
      split
      · exact .inl tableOf_ff
      · exact h.other
    · rw [hL, gb j j2]
      split
      · exact tableOf_ff
      · exact h.others j j1 j2
  · have a1' : s.act.2 = false := by simpa using a1
    obtain ⟨S1, e1, c1, b1⟩ := hc.erase ho (act_eq a1') (b := 1 - o) (by omega)
    have o1 := act_on ho a1'
    obtain ⟨s1, hs1⟩ : ∃ s1, s1 = s.act.1 := ⟨_, rfl⟩
    rw [← hs1] at e1 o1
    have hw : Ch.wipes 8 S s ((1 - o : Nat) : Int) = (S1, s1, 0) := by unfold Ch.wipes; rw [e1, if_neg (by simp)]
    have hB1 : S1.bs.getD (1 - o) ⟨[], 0, false⟩ = Bk.blank := by rw [b1, getD_set2 (by omega), if_pos rfl]
    have hL1 : S1.bs.length = S.bs.length := by rw [b1, List.length_set]
    by_cases a2 : s1.act.2 = true
    · obtain ⟨S2, n, hn8, e2, c2, b2⟩ := c1.programCut o1 a2 (b := 1 - o) (by omega) hB1 d
      have hp : S.place s ((1 - o : Nat) : Int) d = (S2, s1.act.1, 30) := by
        unfold Ch.place
        rw [hw, if_pos rfl]
        unfold Ch.puts
        show (if (S1.program ((1 - o : Nat) : Int) 0 d s1).2.2 = 33 then _ else S1.program ((1 - o : Nat) : Int) 0 d s1) = _
        rw [e2, if_neg (by simp)]
      have hL : S2.bs.length = S.bs.length := by rw [b2, List.length_set, hL1]
      have go : ∀ j, pageOf S2.bs o j = pageOf S.bs o j := fun j => by unfold pageOf; rw [b2, getD_set2 (by omega), if_neg (by omega), b1, getD_set2 (by omega), if_neg (by omega)]
      have gb : ∀ j, j < 8 → pageOf S2.bs (1 - o) j = if j = 0 then NM.wr n NM.ff d else NM.ff := fun j hj => by
        rw [page_of (X := ⟨NM.wr n NM.ff d :: List.replicate 7 NM.ff, 1, false⟩) (by rw [b2, getD_set2 (by omega), if_pos rfl])]
        exact page_first hj
      rw [hp]
      refine ⟨S2, s1.act.1, 30, rfl, c2, hL, .inr ⟨rfl, .inl ⟨hlt, by rw [hL, go]; exact h.here, fun j j1 j2 => by rw [hL, go]; exact h.rest j j1 j2, ?_, fun j j1 j2 => by rw [gb j j2, if_neg (by omega)]; exact tableOf_ff⟩⟩⟩
      rw [hL, gb 0 (by omega), if_pos rfl]
      rcases wr_part hd hn8 with q | q
      · exact .inl (tableOf_torn (.inl q))
      · exact .inr ⟨l', by rw [q]; exact htb⟩
    · have a2' : s1.act.2 = false := by simpa using a2
      obtain ⟨S2, e2, c2, b2⟩ := c1.program o1 (act_eq a2') (b := 1 - o) (by omega) hB1 hd
      have o2 := act_on o1 a2'
      obtain ⟨s2, hs2⟩ : ∃ s2, s2 = s1.act.1 := ⟨_, rfl⟩
      rw [← hs2] at e2 o2
      have hp : S.place s ((1 - o : Nat) : Int) d = (S2, s2, 0) := by
        unfold Ch.place
        rw [hw, if_pos rfl]
        unfold Ch.puts
        show (if (S1.program ((1 - o : Nat) : Int) 0 d s1).2.2 = 33 then _ else S1.program ((1 - o : Nat) : Int) 0 d s1) = _
        rw [e2, if_neg (by simp)]
      have hL2 : S2.bs.length = S.bs.length := by rw [b2, List.length_set, hL1]
      have go2 : ∀ j, pageOf S2.bs o j = pageOf S.bs o j := fun j => by unfold pageOf; rw [b2, getD_set2 (by omega), if_neg (by omega), b1, getD_set2 (by omega), if_neg (by omega)]
      have gb2 : ∀ j, j < 8 → pageOf S2.bs (1 - o) j = if j = 0 then d else NM.ff := fun j hj => by
        rw [page_of (X := ⟨d :: List.replicate 7 NM.ff, 1, false⟩) (by rw [b2, getD_set2 (by omega), if_pos rfl])]
        exact page_first hj
      rw [hp, if_neg (by simp)]
      by_cases a3 : s2.act.2 = true
      · obtain ⟨S3, n, hn8, e3, c3, b3⟩ := c2.eraseCut o2 a3 (b := o) hlt
        have hw3 : Ch.wipes 8 S2 s2 (o : Int) = (S3, s2.act.1, 30) := by unfold Ch.wipes; rw [e3, if_neg (by simp)]
        have hL : S3.bs.length = S.bs.length := by rw [b3, List.length_set, hL2]
        have gb : ∀ j, j < 8 → pageOf S3.bs (1 - o) j = if j = 0 then d else NM.ff := fun j hj => by
          rw [← gb2 j hj]
          unfold pageOf
          rw [b3, getD_set2 (by omega), if_neg (by omega)]
        have go : ∀ j, j < 8 → pageOf S3.bs o j = if j < n then NM.ff else pageOf S.bs o j := fun j _ => by
          rw [← go2 j, page_of (X := ⟨wipP n (S2.bs.getD o ⟨[], 0, false⟩).pg, 8, false⟩) (by rw [b3, getD_set2 (by omega), if_pos rfl])]
          exact wipP_page (c2.oks _ hlt) hn8
        refine ⟨S3, s2.act.1, 30, hw3, c3, hL, .inr ⟨rfl, ?_⟩⟩
        by_cases n0 : n = 0
        · subst n0
          refine .inl ⟨hlt, by rw [hL, go 0 (by omega), if_neg (by omega)]; exact h.here, fun j j1 j2 => by rw [hL, go j j2, if_neg (by omega)]; exact h.rest j j1 j2, .inr ⟨l', by rw [hL, gb 0 (by omega), if_pos rfl]; exact htb⟩, fun j j1 j2 => by rw [gb j j2, if_neg (by omega)]; exact tableOf_ff⟩
        · refine .inr ⟨by omega, by rw [hL, gb 0 (by omega), if_pos rfl]; exact htb, fun j j1 j2 => by rw [gb j j2, if_neg (by omega)]; exact tableOf_ff, ?_, fun j j1 j2 => ?_⟩
          · rw [show 1 - (1 - o) = o by omega, go 0 (by omega), if_pos (by omega)]
            exact .inl tableOf_ff
          · rw [show 1 - (1 - o) = o by omega, hL, go j j2]
            split
            · exact tableOf_ff
            · exact h.rest j j1 j2
      · have a3' : s2.act.2 = false := by simpa using a3
        obtain ⟨S3, e3, c3, b3⟩ := c2.erase o2 (act_eq a3') (b := o) hlt
        have hw3 : Ch.wipes 8 S2 s2 (o : Int) = (S3, s2.act.1, 0) := by unfold Ch.wipes; rw [e3, if_neg (by simp)]
        have hL : S3.bs.length = S.bs.length := by rw [b3, List.length_set, hL2]
        have gb : ∀ j, j < 8 → pageOf S3.bs (1 - o) j = if j = 0 then d else NM.ff := fun j hj => by
          rw [← gb2 j hj]
          unfold pageOf
          rw [b3, getD_set2 (by omega), if_neg (by omega)]
        have go : ∀ j, j < 8 → pageOf S3.bs o j = NM.ff := fun j hj => by
          rw [page_of (X := Bk.blank) (by rw [b3, getD_set2 (by omega), if_pos rfl])]
          exact ff_pages hj
        refine ⟨S3, s2.act.1, 0, hw3, c3, hL, .inl ⟨rfl, act_on o2 a3', by omega, by rw [hL, gb 0 (by omega), if_pos rfl]; exact htb, fun j j1 j2 => by rw [gb j j2, if_neg (by omega)]; exact tableOf_ff, .inl (by rw [show 1 - (1 - o) = o by omega, go 0 (by omega)]; exact tableOf_ff), fun j j1 j2 => by rw [show 1 - (1 - o) = o by omega, go j j2]; exact tableOf_ff⟩⟩
end Go.Proofs.YtjagonoicaelmaaGreatDoor


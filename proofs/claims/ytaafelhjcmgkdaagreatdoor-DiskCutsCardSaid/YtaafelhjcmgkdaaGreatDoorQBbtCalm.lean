/- What keep does on a chip of which nothing fails while the power lasts: the plain facts. -/
import Derived.Test.YtaafelhjcmgkdaaGreatDoorQBbtKeep
import Derived.Test.YtaafelhjcmgkdaaGreatDoorQBbtFact
namespace Go.Proofs.YtaafelhjcmgkdaaGreatDoor
open Go.RowKit
theorem wr_all {d : List UInt8} (hd : d.length = 258) : NM.wr 258 NM.ff d = d := by
  apply List.ext_getElem?
  intro i
  rw [NM.wr_get]
  by_cases h : i < 258
  · rw [show NM.ff[i]? = some 255 by unfold NM.ff; rw [List.getElem?_replicate, if_pos h], List.getElem?_eq_getElem (by omega), Option.map_some, if_pos h, List.getD_eq_getElem?_getD, List.getElem?_eq_getElem (by omega), Option.getD_some]
    congr 1
    apply UInt8.toNat_inj.1
    rw [UInt8.toNat_and]
    show 255 &&& _ = _
    rw [Nat.and_comm]
    have := Nat.and_two_pow_sub_one_eq_mod (d[i].toNat) 8
    rw [show 2 ^ 8 - 1 = 255 from rfl] at this
    rw [this, Nat.mod_eq_of_lt (d[i].toNat_lt)]
  · rw [List.getElem?_eq_none (by rw [NM.ff_length]; omega), List.getElem?_eq_none (by omega)]
    rfl
theorem may_here {off live : Bool} {M : Nat} (ho : off = false) (hl : live = true) {b k : Nat} (hb : b < M) (hk : k < 8) : NM.may off live (M : Int) (b : Int) (k : Int) = 0 := by
  unfold NM.may
  rw [if_neg (by simp [ho]), if_pos hl, if_neg (by omega)]
/-- nothing fails, the chip answers, the power lasts -/
structure Calm (S : Ch) (s : NM.Pwr) : Prop where
  fp : ∀ i, S.fp i = false
  fe : ∀ i, S.fe i = false
  live : S.live = true
  off : s.off = false
  after : s.after < 0
  len : 16 ≤ S.bs.length
  good : ∀ b, b < 2 → (S.bs.getD b ⟨[], 0, false⟩).bad = false
  oks : ∀ b, b < 2 → (S.bs.getD b ⟨[], 0, false⟩).pg.length = 8
theorem getD_set2 {Bs : List Bk} {b j : Nat} (hb : b < Bs.length) (x d : Bk) : (Bs.set b x).getD j d = if j = b then x else Bs.getD j d := by
  rw [List.getD_eq_getElem?_getD, List.getElem?_set, List.getD_eq_getElem?_getD]
  by_cases e : b = j
  · subst e; simp [hb]
  · rw [if_neg e, if_neg (fun h => e h.symm)]
theorem act_lasts {s : NM.Pwr} (h : s.after < 0) : s.act = (s, false) := by
  unfold NM.Pwr.act
  rw [if_pos h]
section
variable {S : Ch} {s : NM.Pwr}
theorem Calm.to (h : Calm S s) {S' : Ch} {b : Nat} {X : Bk} (hb : b < 2) (e : S'.bs = S.bs.set b X) (h1 : S'.fp = S.fp) (h2 : S'.fe = S.fe) (h3 : S'.live = S.live) (hx : X.bad = false) (hp : X.pg.length = 8) : Calm S' s := by
  have hl := h.len
  refine ⟨by rw [h1]; exact h.fp, by rw [h2]; exact h.fe, by rw [h3]; exact h.live, h.off, h.after, by rw [e, List.length_set]; exact hl, fun c hc => ?_, fun c hc => ?_⟩
  · rw [e, getD_set2 (by omega)]
    split
    · exact hx
    · exact h.good c hc
  · rw [e, getD_set2 (by omega)]
    split
    · exact hp
    · exact h.oks c hc
theorem Calm.erase (h : Calm S s) {b : Nat} (hb : b < 2) : ∃ S', S.erase (b : Int) s = (S', s, 0) ∧ Calm S' s ∧ S'.bs = S.bs.set b Bk.blank := by
  have hl := h.len
  have hm : NM.may s.off S.live (S.bs.length : Int) (b : Int) 0 = 0 := may_here (k := 0) h.off h.live (by omega) (by omega)
  have hx := h.good b hb
  have hp := h.oks b hb
  obtain ⟨X, hX⟩ : ∃ X, X = S.bs.getD b ⟨[], 0, false⟩ := ⟨_, rfl⟩
  have hxb : X.bad = false := by rw [hX]; exact hx
  have e1 : (S.setNext b 8).bs = S.bs.set b (X.setNext 8) := by rw [hX]; rfl
  have e2 : (S.setNext b 8).bs.getD b ⟨[], 0, false⟩ = X.setNext 8 := by rw [e1, getD_set2 (by omega), if_pos rfl]
  have ha : (S.setNext b 8).actE b s = ({ S with cnt := S.cnt + 1, de := S.de + 1, bs := S.bs.set b ⟨List.replicate 8 NM.ff, 8, false⟩ }, 0) := by
    unfold Ch.actE
    rw [act_lasts h.after, e2]
    show (({ (S.setNext b 8) with cnt := S.cnt + 1, de := S.de + 1, bs := wipeB (S.setNext b 8).bs b (actN false (S.fe S.de) X.bad s.keep 8 0).1 } : Ch), (actN false (S.fe S.de) X.bad s.keep 8 0).2) = _
    rw [h.fe, hxb]
    show (({ (S.setNext b 8) with cnt := S.cnt + 1, de := S.de + 1, bs := wipeB (S.setNext b 8).bs b 8 } : Ch), (0 : Int)) = _
    unfold wipeB
    rw [e2, e1, List.set_set]
    have : (wipP 8 (X.setNext 8).pg) = List.replicate 8 NM.ff := by
      show List.replicate (min 8 X.pg.length) NM.ff ++ X.pg.drop 8 = _
      rw [← hX] at hp
      rw [hp, List.drop_eq_nil_of_le (Nat.le_of_eq hp), List.append_nil]
      rfl
    rw [this]
    have hbad : (X.setNext 8).bad = false := by rw [hX]; exact hx
    show (({ S with cnt := S.cnt + 1, de := S.de + 1, bs := S.bs.set b ⟨List.replicate 8 NM.ff, 8, (X.setNext 8).bad⟩ } : Ch), (0 : Int)) = _
    rw [hbad]
  have he : S.erase (b : Int) s = ((({ S with cnt := S.cnt + 1, de := S.de + 1, bs := S.bs.set b ⟨List.replicate 8 NM.ff, 8, false⟩ } : Ch)).setNext b 0, s, 0) := by
    unfold Ch.erase
    rw [if_neg (by rw [hm]; simp), Int.toNat_natCast, ha, if_pos rfl, act_lasts h.after]
  have hbs : ((({ S with cnt := S.cnt + 1, de := S.de + 1, bs := S.bs.set b ⟨List.replicate 8 NM.ff, 8, false⟩ } : Ch)).setNext b 0).bs = S.bs.set b Bk.blank := by
    show (S.bs.set b ⟨List.replicate 8 NM.ff, 8, false⟩).set b (((S.bs.set b ⟨List.replicate 8 NM.ff, 8, false⟩).getD b ⟨[], 0, false⟩).setNext 0) = _
    rw [getD_set2 (by omega), if_pos rfl, List.set_set]
    rfl
  exact ⟨_, he, h.to hb hbs rfl rfl rfl rfl (by decide), hbs⟩
theorem Calm.program (h : Calm S s) {b : Nat} (hb : b < 2) (hB : S.bs.getD b ⟨[], 0, false⟩ = Bk.blank) {d : List UInt8} (hd : d.length = 258) : ∃ S', S.program (b : Int) 0 d s = (S', s, 0) ∧ Calm S' s ∧ S'.bs = S.bs.set b ⟨d :: List.replicate 7 NM.ff, 1, false⟩ := by
  have hl := h.len
  have hm : NM.may s.off S.live (S.bs.length : Int) (b : Int) 0 = 0 := may_here (k := 0) h.off h.live (by omega) (by omega)
  have hn : S.nextOf b = 0 := by unfold Ch.nextOf; rw [hB]; rfl
  have e1 : (S.setNext b 1).bs = S.bs.set b (Bk.blank.setNext 1) := by unfold Ch.setNext; rw [hB]
  have e2 : (S.setNext b 1).bs.getD b ⟨[], 0, false⟩ = Bk.blank.setNext 1 := by rw [e1, getD_set2 (by omega), if_pos rfl]
  have e3 : pageOf (S.setNext b 1).bs b 0 = NM.ff := by unfold pageOf; rw [e2]; rfl
  have hbad : (Bk.blank.setNext 1).bad = false := rfl
  have ha : (S.setNext b 1).actP b 0 d s = ({ S with cnt := S.cnt + 1, dp := S.dp + 1, bs := S.bs.set b ⟨d :: List.replicate 7 NM.ff, 1, false⟩ }, 0) := by
    unfold Ch.actP
    rw [act_lasts h.after, e2, e3, hbad]
    show (({ (S.setNext b 1) with cnt := S.cnt + 1, dp := S.dp + 1, bs := putPage (S.setNext b 1).bs b 0 (NM.wr (actN false (S.fp S.dp) false s.keep 258 129).1 NM.ff d) } : Ch), (actN false (S.fp S.dp) false s.keep 258 129).2) = _
    rw [h.fp]
    show (({ (S.setNext b 1) with cnt := S.cnt + 1, dp := S.dp + 1, bs := putPage (S.setNext b 1).bs b 0 (NM.wr 258 NM.ff d) } : Ch), (0 : Int)) = _
    rw [wr_all hd]
    unfold putPage
    rw [e2, e1, List.set_set]
    rfl
  have he : S.program (b : Int) 0 d s = (({ S with cnt := S.cnt + 1, dp := S.dp + 1, bs := S.bs.set b ⟨d :: List.replicate 7 NM.ff, 1, false⟩ } : Ch), s, 0) := by
    unfold Ch.program
    rw [if_neg (by rw [hm]; simp), Int.toNat_natCast, hn, if_neg (by simp)]
    show (((S.setNext b 1).actP b 0 d s).1, s.act.1, ((S.setNext b 1).actP b 0 d s).2) = _
    rw [ha, act_lasts h.after]
  exact ⟨_, he, h.to hb rfl rfl rfl rfl rfl (by simp), rfl⟩
theorem Calm.wipes (h : Calm S s) {b : Nat} (hb : b < 2) : ∃ S', Ch.wipes 8 S s (b : Int) = (S', s, 0) ∧ Calm S' s ∧ S'.bs = S.bs.set b Bk.blank := by
  obtain ⟨S', e, hc, hbs⟩ := h.erase hb
  refine ⟨S', ?_, hc, hbs⟩
  unfold Ch.wipes
  rw [e, if_neg (by simp)]
theorem Calm.place (h : Calm S s) {b : Nat} (hb : b < 2) {d : List UInt8} (hd : d.length = 258) : ∃ S', S.place s (b : Int) d = (S', s, 0) ∧ Calm S' s ∧ S'.bs = S.bs.set b ⟨d :: List.replicate 7 NM.ff, 1, false⟩ := by
  have hl := h.len
  obtain ⟨S1, e1, c1, b1⟩ := h.wipes hb
  obtain ⟨S2, e2, c2, b2⟩ := c1.program hb (by rw [b1, getD_set2 (by omega), if_pos rfl]) hd
  refine ⟨S2, ?_, c2, by rw [b2, b1, List.set_set]⟩
  unfold Ch.place
  rw [e1, if_pos rfl]
  unfold Ch.puts
  show (if (S1.program (b : Int) 0 d s).2.2 = 33 then _ else S1.program (b : Int) 0 d s) = _
  rw [e2, if_neg (by simp)]
theorem Calm.may (h : Calm S s) : S.mayE s = 0 := may_here (b := 0) (k := 0) h.off h.live (by have := h.len; omega) (by omega)
theorem Calm.keep (h : Calm S s) (l : Lay) (hl : l.ok) (o : Nat) (k : Nat) (ho : o < 2) (h1 : (keptOf (lookTo S.bs 16)).blk = o) (h2 : (keptOf (lookTo S.bs 16)).num = k) :
    ∃ S', S.keep s l = (S', s, 0) ∧ Calm S' s ∧ S'.bs = (S.bs.set (1 - o) ⟨tpage (next64 k) l :: List.replicate 7 NM.ff, 1, false⟩).set o Bk.blank := by
  obtain ⟨S1, e1, c1, b1⟩ := h.place (b := 1 - o) (by omega) (tpage_length (n := next64 k) hl)
  obtain ⟨S2, e2, c2, b2⟩ := c1.wipes ho
  refine ⟨S2, ?_, c2, by rw [b2, b1]⟩
  have hK : S.lookK s = lookTo S.bs 16 := by unfold Ch.lookK; rw [if_pos h.may]
  have hE : S.lookE s = noneE (lookTo S.bs 16) := by unfold Ch.lookE; rw [if_pos h.may]
  unfold Ch.keep
  rw [hK, hE, h1, h2, show (1 - (o : Int)) = ((1 - o : Nat) : Int) by omega, e1, if_neg (by unfold noneE; split <;> simp), if_neg (by simp)]
  exact e2
end
theorem lookTo_only {bs : List Bk} {i0 : Nat} (k : Nat) (l : Lay) (h0 : tableOf bs.length (pageOf bs (i0 / 8) (i0 % 8)) = some (k, l)) (hi : ∀ i, i < 16 → i ≠ i0 → tableOf bs.length (pageOf bs (i / 8) (i % 8)) = none) :
    ∀ m, m ≤ 16 → lookTo bs m = if i0 < m then some ⟨k, l, i0 / 8, pageOf bs (i0 / 8) (i0 % 8)⟩ else none
  | 0, _ => by rw [if_neg (by omega)]; rfl
  | m + 1, hm => by
    have ih := lookTo_only k l h0 hi m (by omega)
    show lookAt bs.length bs (lookTo bs m) (m / 8) (m % 8) = _
    unfold lookAt
    by_cases e : m = i0
    · subst e
      rw [ih, if_neg (by omega), h0, if_pos (by omega)]
      rfl
    · rw [hi m (by omega) e, ih]
      by_cases c : i0 < m
      · rw [if_pos c, if_pos (by omega)]; rfl
      · rw [if_neg c, if_neg (by omega)]; rfl
theorem lookTo_none {bs : List Bk} (hi : ∀ i, i < 16 → tableOf bs.length (pageOf bs (i / 8) (i % 8)) = none) : ∀ m, m ≤ 16 → lookTo bs m = none
  | 0, _ => rfl
  | m + 1, hm => by
    show lookAt bs.length bs (lookTo bs m) (m / 8) (m % 8) = _
    unfold lookAt
    rw [hi m (by omega), lookTo_none hi m (by omega)]
    rfl
/-- the chip keeps the table l, with the number k, in its block o -/
structure Keeps (S : Ch) (o k : Nat) (l : Lay) : Prop where
  lt : o < 2
  here : S.bs.getD o ⟨[], 0, false⟩ = ⟨tpage k l :: List.replicate 7 NM.ff, 1, false⟩
  there : S.bs.getD (1 - o) ⟨[], 0, false⟩ = Bk.blank
theorem ff_pages {j : Nat} (h : j < 8) : (Bk.blank.pg.getD j []) = NM.ff := by
  show (List.replicate 8 NM.ff).getD j [] = _
  rw [List.getD_eq_getElem?_getD, List.getElem?_replicate, if_pos h]
  rfl
theorem page_first {P : List UInt8} {j : Nat} (h : j < 8) : ((P :: List.replicate 7 NM.ff).getD j []) = if j = 0 then P else NM.ff := by
  cases j with
  | zero => rfl
  | succ j =>
    rw [if_neg (by omega), List.getD_eq_getElem?_getD, List.getElem?_cons_succ, List.getElem?_replicate, if_pos (by omega)]
    rfl
section
variable {S : Ch} {s : NM.Pwr} {o k : Nat} {l : Lay}
theorem Keeps.look (h : Keeps S o k l) (hl : l.good) (hn : l.n = S.bs.length) (hk : k < 18446744073709551616) : lookTo S.bs 16 = some ⟨k, l, o, tpage k l⟩ := by
  have ho := h.lt
  have hp : pageOf S.bs o 0 = tpage k l := by unfold pageOf; rw [h.here]; rfl
  have e1 : o * 8 / 8 = o := by omega
  have e2 : o * 8 % 8 = 0 := by omega
  have := lookTo_only (bs := S.bs) (i0 := o * 8) k l (by rw [e1, e2, hp]; exact tableOf_tpage hl hn hk) (fun i h1 h2 => by
    have : pageOf S.bs (i / 8) (i % 8) = NM.ff := by
      unfold pageOf
      by_cases c : i / 8 = o
      · rw [c, h.here, page_first (by omega), if_neg (by omega)]
      · rw [show i / 8 = 1 - o by omega, h.there, ff_pages (by omega)]
    rw [this]
    exact tableOf_ff) 16 (Nat.le_refl _)
  rw [this, if_pos (by omega), e1, e2, hp]
theorem Keeps.keep (h : Keeps S o k l) (hl : l.good) (hn : l.n = S.bs.length) (hk : k < 18446744073709551616) (hc : Calm S s) {l' : Lay} (hl' : l'.ok) : ∃ S', S.keep s l' = (S', s, 0) ∧ Calm S' s ∧ Keeps S' (1 - o) (next64 k) l' ∧ S'.bs.length = S.bs.length ∧ ∀ b, 2 ≤ b → S'.bs.getD b ⟨[], 0, false⟩ = S.bs.getD b ⟨[], 0, false⟩ := by
  have ho := h.lt
  have hlen := hc.len
  have hk1 := h.look hl hn hk
  obtain ⟨S', e, c, hb⟩ := hc.keep l' hl' o k ho (by rw [hk1]; rfl) (by rw [hk1]; rfl)
  refine ⟨S', e, c, ⟨by omega, ?_, ?_⟩, by rw [hb, List.length_set, List.length_set], fun b h2 => ?_⟩
  · rw [hb, getD_set2 (by rw [List.length_set]; omega), if_neg (by omega), getD_set2 (by omega), if_pos rfl]
  · rw [hb, getD_set2 (by rw [List.length_set]; omega), if_pos (by omega)]
  · rw [hb, getD_set2 (by rw [List.length_set]; omega), if_neg (by omega), getD_set2 (by omega), if_neg (by omega)]
theorem Calm.first (hc : Calm S s) (h0 : S.bs.getD 0 ⟨[], 0, false⟩ = Bk.blank) (h1 : S.bs.getD 1 ⟨[], 0, false⟩ = Bk.blank) (hl : l.ok) : ∃ S', S.keep s l = (S', s, 0) ∧ Calm S' s ∧ Keeps S' 1 1 l ∧ S'.bs.length = S.bs.length ∧ ∀ b, 2 ≤ b → S'.bs.getD b ⟨[], 0, false⟩ = S.bs.getD b ⟨[], 0, false⟩ := by
  have hlen := hc.len
  have hk1 := lookTo_none (bs := S.bs) (fun i hi => by
    have : pageOf S.bs (i / 8) (i % 8) = NM.ff := by
      unfold pageOf
      rcases (show i / 8 = 0 ∨ i / 8 = 1 by omega) with e | e
      · rw [e, h0, ff_pages (by omega)]
      · rw [e, h1, ff_pages (by omega)]
    rw [this]
    exact tableOf_ff) 16 (Nat.le_refl _)
  obtain ⟨S', e, c, hb⟩ := hc.keep l hl 0 0 (by omega) (by rw [hk1]; rfl) (by rw [hk1]; rfl)
  refine ⟨S', e, c, ⟨by omega, ?_, ?_⟩, by rw [hb, List.length_set, List.length_set], fun b h2 => ?_⟩
  · rw [hb, getD_set2 (by rw [List.length_set]; omega), if_neg (by omega), getD_set2 (by omega), if_pos rfl]
    rfl
  · rw [hb, getD_set2 (by rw [List.length_set]; omega), if_pos (by omega)]
  · rw [hb, getD_set2 (by rw [List.length_set]; omega), if_neg (by omega), getD_set2 (by omega), if_neg (by omega)]
end
end Go.Proofs.YtaafelhjcmgkdaaGreatDoor


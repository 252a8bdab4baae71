/- Several texts of the proof, joined: what each has is said at its head. -/
import Derived.Test.YtdiocjneakfdgaaGreatDoorQBbtT
import Derived.Test.YtdiocjneakfdgaaGreatDoorQBbtGood
/- What one act of a chip leaves, whatever becomes of it: plain facts. Condition: no block is bad from the beginning. -/
namespace Go.Proofs.YtdiocjneakfdgaaGreatDoor
open Go.RowKit
/-- the block b of a chip -/
def Ch.bk (S : Ch) (b : Nat) : Bk := S.bs.getD b ⟨[], 0, false⟩
/-- at most n of the acts from d on fail -/
def Left (f : Int → Bool) (d n : Nat) : Prop := ∃ L : List Nat, L.length ≤ n ∧ ∀ i : Nat, d ≤ i → f (i : Int) = true → i ∈ L
theorem Left.next {f : Int → Bool} {d n : Nat} (h : Left f d n) : Left f (d + 1) n := by
  obtain ⟨L, h1, h2⟩ := h
  exact ⟨L, h1, fun i hi => h2 i (by omega)⟩
theorem Left.hit {f : Int → Bool} {d n : Nat} (h : Left f d n) (hf : f (d : Int) = true) : ∃ m, n = m + 1 ∧ Left f (d + 1) m := by
  obtain ⟨L, h1, h2⟩ := h
  have hm := h2 d (Nat.le_refl _) hf
  have hp := List.length_pos_of_mem hm
  refine ⟨n - 1, by omega, L.erase d, by rw [List.length_erase_of_mem hm]; omega, fun i hi hfi => ?_⟩
  exact (List.mem_erase_of_ne (by omega)).2 (h2 i (by omega) hfi)
/-- the chip answers where there is power; so many blocks; few acts fail -/
structure Fine (S : Ch) (N f e : Nat) : Prop where
  live : S.live = true
  len : S.bs.length = N
  n1 : 16 ≤ N
  bad : ∀ b, (S.bk b).bad = false
  oks : ∀ b, b < N → (S.bk b).pg.length = 8
  fp : Left S.fp S.dp f
  fe : Left S.fe S.de e
/-- the power lasts -/
def Pn (s s' : NM.Pwr) : Prop := s'.off = false ∧ (s.after < 0 → s' = s)
/-- the power has gone -/
def Pc (s s' : NM.Pwr) : Prop := s'.off = true ∧ ¬ s.after < 0
theorem Pn.refl {s : NM.Pwr} (h : s.off = false) : Pn s s := ⟨h, fun _ => rfl⟩
theorem Pn.trans {s s1 s2 : NM.Pwr} (h : Pn s s1) (k : Pn s1 s2) : Pn s s2 := ⟨k.1, fun a => by have e := h.2 a; subst e; exact k.2 a⟩
theorem Pn.cut {s s1 s2 : NM.Pwr} (h : Pn s s1) (k : Pc s1 s2) : Pc s s2 := ⟨k.1, fun a => by have e := h.2 a; subst e; exact k.2 a⟩
theorem act_cases {s : NM.Pwr} (ho : s.off = false) : (s.act.2 = false ∧ Pn s s.act.1) ∨ (s.act.2 = true ∧ Pc s s.act.1) := by
  unfold NM.Pwr.act Pn Pc
  split
  · rename_i h
    exact .inl ⟨rfl, ho, fun _ => rfl⟩
  · rename_i h
    simp only [ho, Bool.false_or]
    cases e : (s.after == 0) with
    | false => exact .inl ⟨rfl, rfl, fun h' => absurd h' h⟩
    | true => exact .inr ⟨rfl, rfl, h⟩
section
variable {S : Ch} {s : NM.Pwr} {N f e : Nat}
theorem Fine.may (h : Fine S N f e) (ho : s.off = false) {b k : Nat} (hb : b < N) (hk : k < 8) : NM.may s.off S.live (S.bs.length : Int) (b : Int) (k : Int) = 0 := may_here ho h.live (by rw [h.len]; exact hb) hk
theorem Fine.to (h : Fine S N f e) {S' : Ch} {b f' e' : Nat} {X : Bk} (hb : b < N) (e1 : S'.bs = S.bs.set b X) (h3 : S'.live = S.live) (hx : X.bad = false) (hp : X.pg.length = 8) (hf : Left S'.fp S'.dp f') (he : Left S'.fe S'.de e') : Fine S' N f' e' := by
  have hl := h.len
  refine ⟨by rw [h3]; exact h.live, by rw [e1, List.length_set]; exact hl, h.n1, fun c => ?_, fun c hc => ?_, hf, he⟩
  · unfold Ch.bk
    rw [e1, getD_set2 (by omega)]
    split
    · exact hx
    · exact h.bad c
  · unfold Ch.bk
    rw [e1, getD_set2 (by omega)]
    split
    · exact hp
    · exact h.oks c hc
theorem actN_cases (ends fails : Bool) (keep : Int) (whole failed : Nat) : (ends = false ∧ fails = false ∧ actN ends fails false keep whole failed = (whole, 0)) ∨ (ends = false ∧ fails = true ∧ actN ends fails false keep whole failed = (failed, 33)) ∨ (ends = true ∧ ∃ n, n ≤ whole ∧ actN ends fails false keep whole failed = (n, 30)) := by
  cases ends with
  | true => exact .inr (.inr ⟨rfl, (min (max keep 0) (whole : Int)).toNat, by omega, rfl⟩)
  | false => cases fails with
    | true => exact .inr (.inl ⟨rfl, rfl, rfl⟩)
    | false => exact .inl ⟨rfl, rfl, rfl⟩
/-- a Program of the next page -/
theorem Fine.prog (h : Fine S N f e) (ho : s.off = false) {b k : Nat} (hb : b < N) (hk : k < 8) (hn : (S.bk b).nx = k) (d : List UInt8) :
    ∃ S' s' r n f', S.program (b : Int) (k : Int) d s = (S', s', r) ∧ Fine S' N f' e ∧ S'.bs = S.bs.set b ⟨(S.bk b).pg.set k (NM.wr n ((S.bk b).pg.getD k []) d), k + 1, false⟩ ∧ S'.fp = S.fp ∧ S'.dp = S.dp + 1 ∧
      ((r = 0 ∧ n = 258 ∧ Pn s s' ∧ f' = f ∧ S.fp (S.dp : Int) = false) ∨ (r = 33 ∧ n = 129 ∧ Pn s s' ∧ f = f' + 1 ∧ S.fp (S.dp : Int) = true) ∨ (r = 30 ∧ n ≤ 258 ∧ Pc s s' ∧ f' = f)) := by
  have hl := h.len
  have hm := h.may ho hb hk
  have hx := h.bad b
  have hp := h.oks b hb
  obtain ⟨X, hX⟩ : ∃ X, X = S.bk b := ⟨_, rfl⟩
  have hX' : X = S.bs.getD b ⟨[], 0, false⟩ := hX
  rw [← hX] at hx hp hn ⊢
  have hn' : S.nextOf b = k := by unfold Ch.nextOf; rw [← hX']; exact hn
  have e1 : (S.setNext b (k + 1)).bs = S.bs.set b (X.setNext (k + 1)) := by rw [hX']; rfl
  have e2 : (S.setNext b (k + 1)).bs.getD b ⟨[], 0, false⟩ = X.setNext (k + 1) := by rw [e1, getD_set2 (by omega), if_pos rfl]
  have e3 : pageOf (S.setNext b (k + 1)).bs b k = X.pg.getD k [] := by unfold pageOf; rw [e2]; rfl
  have hbx : (X.setNext (k + 1)).bad = false := hx
  have hprog : S.program (b : Int) (k : Int) d s = (((S.setNext b (k + 1)).actP b k d s).1, s.act.1, ((S.setNext b (k + 1)).actP b k d s).2) := by
    unfold Ch.program
    rw [if_neg (by rw [hm]; simp), Int.toNat_natCast, hn', if_neg (by simp), Int.toNat_natCast]
  have hact : ∀ n r, actN s.act.2 (S.fp (S.dp : Int)) false s.keep 258 129 = (n, r) → (S.setNext b (k + 1)).actP b k d s = ({ S with cnt := S.cnt + 1, dp := S.dp + 1, bs := S.bs.set b ⟨X.pg.set k (NM.wr n (X.pg.getD k []) d), k + 1, false⟩ }, r) := fun n r hq => by
    unfold Ch.actP
    rw [e2, e3, hbx]
    show (({ (S.setNext b (k + 1)) with cnt := S.cnt + 1, dp := S.dp + 1, bs := putPage (S.setNext b (k + 1)).bs b k (NM.wr (actN s.act.2 (S.fp (S.dp : Int)) false s.keep 258 129).1 (X.pg.getD k []) d) } : Ch), (actN s.act.2 (S.fp (S.dp : Int)) false s.keep 258 129).2) = _
    rw [hq]
    unfold putPage
    rw [e2, e1, List.set_set]
    show (({ S with cnt := S.cnt + 1, dp := S.dp + 1, bs := S.bs.set b ⟨X.pg.set k (NM.wr n (X.pg.getD k []) d), k + 1, X.bad⟩ } : Ch), r) = _
    rw [hx]
  rw [hprog]
  have hfin : ∀ n f', Left S.fp (S.dp + 1) f' → Fine ({ S with cnt := S.cnt + 1, dp := S.dp + 1, bs := S.bs.set b ⟨X.pg.set k (NM.wr n (X.pg.getD k []) d), k + 1, false⟩ } : Ch) N f' e := fun n f' hf => h.to (b := b) (X := ⟨X.pg.set k (NM.wr n (X.pg.getD k []) d), k + 1, false⟩) hb rfl rfl rfl (by simp [hp]) hf h.fe
  have hac := act_cases ho
  rcases actN_cases s.act.2 (S.fp (S.dp : Int)) s.keep 258 129 with ⟨a1, a2, a3⟩ | ⟨a1, a2, a3⟩ | ⟨a1, n, hn, a3⟩
  · rw [hact _ _ a3]
    refine ⟨_, _, 0, 258, f, rfl, hfin _ _ h.fp.next, rfl, rfl, rfl, .inl ⟨rfl, rfl, ?_, rfl, a2⟩⟩
    rcases hac with q | q
    · exact q.2
    · rw [a1] at q; cases q.1
  · rw [hact _ _ a3]
    obtain ⟨m, hm1, hm2⟩ := h.fp.hit a2
    refine ⟨_, _, 33, 129, m, rfl, hfin _ _ hm2, rfl, rfl, rfl, .inr (.inl ⟨rfl, rfl, ?_, hm1, a2⟩)⟩
    rcases hac with q | q
    · exact q.2
    · rw [a1] at q; cases q.1
  · rw [hact _ _ a3]
    refine ⟨_, _, 30, n, f, rfl, hfin _ _ h.fp.next, rfl, rfl, rfl, .inr (.inr ⟨rfl, hn, ?_, rfl⟩)⟩
    rcases hac with q | q
    · rw [a1] at q; cases q.1
    · exact q.2
/-- an Erase -/
theorem Fine.erase (h : Fine S N f e) (ho : s.off = false) {b : Nat} (hb : b < N) :
    ∃ S' s' r n nx e', S.erase (b : Int) s = (S', s', r) ∧ Fine S' N f e' ∧ S'.bs = S.bs.set b ⟨wipP n (S.bk b).pg, nx, false⟩ ∧
      ((r = 0 ∧ n = 8 ∧ nx = 0 ∧ Pn s s' ∧ e' = e) ∨ (r = 33 ∧ n = 0 ∧ nx = 8 ∧ Pn s s' ∧ e = e' + 1) ∨ (r = 30 ∧ n ≤ 8 ∧ nx = 8 ∧ Pc s s' ∧ e' = e)) := by
  have hl := h.len
  have hm : NM.may s.off S.live (S.bs.length : Int) (b : Int) 0 = 0 := h.may ho hb (k := 0) (by omega)
  have hx := h.bad b
  have hp := h.oks b hb
  obtain ⟨X, hX⟩ : ∃ X, X = S.bk b := ⟨_, rfl⟩
  have hX' : X = S.bs.getD b ⟨[], 0, false⟩ := hX
  rw [← hX] at hx hp ⊢
  have e1 : (S.setNext b 8).bs = S.bs.set b (X.setNext 8) := by rw [hX']; rfl
  have e2 : (S.setNext b 8).bs.getD b ⟨[], 0, false⟩ = X.setNext 8 := by rw [e1, getD_set2 (by omega), if_pos rfl]
  have hbx : (X.setNext 8).bad = false := hx
  have hact : ∀ n r, actN s.act.2 (S.fe (S.de : Int)) false s.keep 8 0 = (n, r) → (S.setNext b 8).actE b s = ({ S with cnt := S.cnt + 1, de := S.de + 1, bs := S.bs.set b ⟨wipP n X.pg, 8, false⟩ }, r) := fun n r hq => by
    unfold Ch.actE
    rw [e2, hbx]
    show (({ (S.setNext b 8) with cnt := S.cnt + 1, de := S.de + 1, bs := wipeB (S.setNext b 8).bs b (actN s.act.2 (S.fe (S.de : Int)) false s.keep 8 0).1 } : Ch), (actN s.act.2 (S.fe (S.de : Int)) false s.keep 8 0).2) = _
    rw [hq]
    unfold wipeB
    rw [e2, e1, List.set_set]
    show (({ S with cnt := S.cnt + 1, de := S.de + 1, bs := S.bs.set b ⟨wipP n X.pg, 8, X.bad⟩ } : Ch), r) = _
    rw [hx]
  have her : S.erase (b : Int) s = (if ((S.setNext b 8).actE b s).2 = 0 then ((S.setNext b 8).actE b s).1.setNext b 0 else ((S.setNext b 8).actE b s).1, s.act.1, ((S.setNext b 8).actE b s).2) := by
    unfold Ch.erase
    rw [if_neg (by rw [hm]; simp), Int.toNat_natCast]
  rw [her]
  have hwl : ∀ n, (wipP n X.pg).length = 8 := fun n => by rw [wipP_length]; exact hp
  have hac := act_cases ho
  rcases actN_cases s.act.2 (S.fe (S.de : Int)) s.keep 8 0 with ⟨a1, a2, a3⟩ | ⟨a1, a2, a3⟩ | ⟨a1, n, hn, a3⟩
  · rw [hact _ _ a3, if_pos rfl]
    have hbs : ((({ S with cnt := S.cnt + 1, de := S.de + 1, bs := S.bs.set b ⟨wipP 8 X.pg, 8, false⟩ } : Ch)).setNext b 0).bs = S.bs.set b ⟨wipP 8 X.pg, 0, false⟩ := by
      show (S.bs.set b ⟨wipP 8 X.pg, 8, false⟩).set b (((S.bs.set b ⟨wipP 8 X.pg, 8, false⟩).getD b ⟨[], 0, false⟩).setNext 0) = _
      rw [getD_set2 (by omega), if_pos rfl, List.set_set]
      rfl
    refine ⟨_, _, 0, 8, 0, e, rfl, h.to hb hbs rfl rfl (hwl 8) h.fp h.fe.next, hbs, .inl ⟨rfl, rfl, rfl, ?_, rfl⟩⟩
    rcases hac with q | q
    · exact q.2
    · rw [a1] at q; cases q.1
  · rw [hact _ _ a3, if_neg (by simp)]
    obtain ⟨m, hm1, hm2⟩ := h.fe.hit a2
    refine ⟨_, _, 33, 0, 8, m, rfl, h.to (b := b) (X := ⟨wipP 0 X.pg, 8, false⟩) hb rfl rfl rfl (hwl 0) h.fp hm2, rfl, .inr (.inl ⟨rfl, rfl, rfl, ?_, hm1⟩)⟩
    rcases hac with q | q
    · exact q.2
    · rw [a1] at q; cases q.1
  · rw [hact _ _ a3, if_neg (by simp)]
    refine ⟨_, _, 30, n, 8, e, rfl, h.to (b := b) (X := ⟨wipP n X.pg, 8, false⟩) hb rfl rfl rfl (hwl n) h.fp h.fe.next, rfl, .inr (.inr ⟨rfl, hn, rfl, ?_, rfl⟩)⟩
    rcases hac with q | q
    · rw [a1] at q; cases q.1
    · exact q.2
end
/-- the other blocks stay -/
theorem bk_set {S S' : Ch} {b : Nat} {X : Bk} (hb : b < S.bs.length) (h : S'.bs = S.bs.set b X) (c : Nat) : S'.bk c = if c = b then X else S.bk c := by
  unfold Ch.bk
  rw [h, getD_set2 hb]
end Go.Proofs.YtdiocjneakfdgaaGreatDoor

/- What keep leaves, though some acts fail and the power may end in it: plain facts. -/
namespace Go.Proofs.YtdiocjneakfdgaaGreatDoor
open Go.RowKit
theorem page_bk (S : Ch) (b i : Nat) : pageOf S.bs b i = (S.bk b).pg.getD i [] := rfl
theorem wipP_all {P : List (List UInt8)} (h : P.length = 8) : wipP 8 P = List.replicate 8 NM.ff := by
  unfold wipP
  rw [h, List.drop_eq_nil_of_le (Nat.le_of_eq h), List.append_nil]
  rfl
theorem ffs_at {i : Nat} (h : i < 8) : (List.replicate 8 NM.ff).getD i [] = NM.ff := by
  rw [List.getD_eq_getElem?_getD, List.getElem?_replicate, if_pos h]
  rfl
theorem getD_setP {P : List (List UInt8)} {k i : Nat} (hk : k < P.length) (x : List UInt8) : (P.set k x).getD i [] = if i = k then x else P.getD i [] := by
  rw [List.getD_eq_getElem?_getD, List.getElem?_set, List.getD_eq_getElem?_getD]
  by_cases c : k = i
  · subst c; simp [hk]
  · rw [if_neg c, if_neg (fun h => c h.symm)]
theorem wr_torn {n : Nat} {d : List UInt8} (hn : n < 258) : (NM.wr n NM.ff d).getD 257 0 = 255 := by
  rw [List.getD_eq_getElem?_getD, NM.wr_get, show NM.ff[257]? = some 255 by decide, Option.map_some, if_neg (by omega)]
  rfl
section
variable {S : Ch} {s : NM.Pwr} {N f e : Nat}
/-- so many tries of an Erase -/
theorem Fine.wipes : ∀ (k : Nat) (S : Ch) (s : NM.Pwr) (e : Nat), Fine S N f e → s.off = false → ∀ b, b < N → e < k →
    ∃ S' s' r e', Ch.wipes k S s (b : Int) = (S', s', r) ∧ Fine S' N f e' ∧ e' ≤ e ∧ (∀ c, c ≠ b → S'.bk c = S.bk c) ∧
      ((r = 0 ∧ Pn s s' ∧ S'.bk b = Bk.blank) ∨ (r = 30 ∧ Pc s s' ∧ ∃ n, n ≤ 8 ∧ (S'.bk b).pg = wipP n (S.bk b).pg))
  | 0, _, _, _, _, _, _, _, h => absurd h (by omega)
  | k + 1, S, s, e, h, ho, b, hb, he => by
    obtain ⟨S1, s1, r, n, nx, e1, hE, hF, hbs, hc⟩ := h.erase ho hb
    have hl := h.len
    have hbk := bk_set (by omega) hbs
    have hsame : ∀ c, c ≠ b → S1.bk c = S.bk c := fun c hc => by rw [hbk, if_neg hc]
    have hself : S1.bk b = ⟨wipP n (S.bk b).pg, nx, false⟩ := by rw [hbk, if_pos rfl]
    unfold Ch.wipes
    rw [hE]
    rcases hc with ⟨rfl, rfl, rfl, hp, rfl⟩ | ⟨rfl, rfl, rfl, hp, he1⟩ | ⟨rfl, hn, rfl, hp, rfl⟩
    · rw [if_neg (by simp)]
      refine ⟨S1, s1, 0, _, rfl, hF, Nat.le_refl _, hsame, .inl ⟨rfl, hp, ?_⟩⟩
      rw [hself, wipP_all (h.oks b hb)]
      rfl
    · rw [if_pos rfl]
      obtain ⟨S2, s2, r2, e2, w1, w2, w3, w4, w5⟩ := Fine.wipes k S1 s1 e1 hF hp.1 b hb (by omega)
      refine ⟨S2, s2, r2, e2, w1, w2, by omega, fun c hc => (w4 c hc).trans (hsame c hc), ?_⟩
      rcases w5 with ⟨q1, q2, q3⟩ | ⟨q1, q2, n, q3, q4⟩
      · exact .inl ⟨q1, hp.trans q2, q3⟩
      · refine .inr ⟨q1, hp.cut q2, n, q3, ?_⟩
        rw [q4, hself]
        show wipP n (wipP 0 _) = _
        rw [wipP_zero]
    · rw [if_neg (by simp)]
      exact ⟨S1, s1, 30, _, rfl, hF, Nat.le_refl _, hsame, .inr ⟨rfl, hp, n, hn, by rw [hself]⟩⟩
set_option maxRecDepth 100000 in
/-- a table's page is written into the first page that takes it -/
theorem Fine.puts {k : Nat} {l : Lay} {d : List UInt8} (hd : d.length = 258) (ht : tableOf N d = some (k, l)) : ∀ (m j : Nat) (S : Ch) (s : NM.Pwr) (f : Nat), Fine S N f e → s.off = false → ∀ b, b < N → j + m = 8 → f < m → (S.bk b).nx = j → (∀ i, i < 8 → tableOf N ((S.bk b).pg.getD i []) = none) → (∀ i, j ≤ i → i < 8 → (S.bk b).pg.getD i [] = NM.ff) →
    ∃ S' s' r f', Ch.puts m j S s (b : Int) d = (S', s', r) ∧ Fine S' N f' e ∧ f' ≤ f ∧ (∀ c, c ≠ b → S'.bk c = S.bk c) ∧
      ((r = 0 ∧ Pn s s' ∧ ∃ j', j' < 8 ∧ tableOf N ((S'.bk b).pg.getD j' []) = some (k, l) ∧ ∀ i, i < 8 → i ≠ j' → tableOf N ((S'.bk b).pg.getD i []) = none) ∨ (r = 30 ∧ Pc s s' ∧ ∀ i, i < 8 → tableOf N ((S'.bk b).pg.getD i []) = none ∨ tableOf N ((S'.bk b).pg.getD i []) = some (k, l)))
  | 0, _, _, _, _, _, _, _, _, _, h, _, _, _ => absurd h (by omega)
  | m + 1, j, S, s, f, h, ho, b, hb, hjm, hf, hnx, hno, hff => by
    obtain ⟨S1, s1, r, n, f1, hE, hF, hbs, _, _, hc⟩ := h.prog ho hb (k := j) (by omega) hnx d
    have hl := h.len
    have hp8 := h.oks b hb
    have hbk := bk_set (by omega) hbs
    have hsame : ∀ c, c ≠ b → S1.bk c = S.bk c := fun c hc => by rw [hbk, if_neg hc]
    have hself : S1.bk b = ⟨(S.bk b).pg.set j (NM.wr n ((S.bk b).pg.getD j []) d), j + 1, false⟩ := by rw [hbk, if_pos rfl]
    rw [hff j (Nat.le_refl _) (by omega)] at hself
    have hpg : ∀ i, (S1.bk b).pg.getD i [] = if i = j then NM.wr n NM.ff d else (S.bk b).pg.getD i [] := fun i => by rw [hself]; exact getD_setP (by omega) _
    unfold Ch.puts
    rw [hE]
    rcases hc with ⟨rfl, rfl, hp, rfl, _⟩ | ⟨rfl, rfl, hp, hf1, _⟩ | ⟨rfl, hn, hp, rfl⟩
    · rw [if_neg (by simp)]
      refine ⟨S1, s1, 0, _, rfl, hF, Nat.le_refl _, hsame, .inl ⟨rfl, hp, j, by omega, ?_, fun i hi hij => ?_⟩⟩
      · rw [hpg, if_pos rfl, wr_all hd]; exact ht
      · rw [hpg, if_neg hij]; exact hno i hi
    · rw [if_pos rfl]
      obtain ⟨S2, s2, r2, f2, w1, w2, w3, w4, w5⟩ := Fine.puts hd ht m (j + 1) S1 s1 f1 hF hp.1 b hb (by omega) (by omega) (by rw [hself]) (fun i hi => by
        rw [hpg]
        split
        · exact tableOf_torn (.inl (wr_torn (by omega)))
        · exact hno i hi) (fun i h1 h2 => by rw [hpg, if_neg (by omega)]; exact hff i (by omega) h2)
      refine ⟨S2, s2, r2, f2, w1, w2, by omega, fun c hc => (w4 c hc).trans (hsame c hc), ?_⟩
      rcases w5 with ⟨q1, q2, q3⟩ | ⟨q1, q2, q3⟩
      · exact .inl ⟨q1, hp.trans q2, q3⟩
      · exact .inr ⟨q1, hp.cut q2, q3⟩
    · rw [if_neg (by simp)]
      refine ⟨S1, s1, 30, _, rfl, hF, Nat.le_refl _, hsame, .inr ⟨rfl, hp, fun i hi => ?_⟩⟩
      rw [hpg]
      split
      · rcases wr_part hd hn with q | q
        · exact .inl (tableOf_torn (.inl q))
        · exact .inr (by rw [q]; exact ht)
      · exact .inl (hno i hi)
end
/-- one table counts: page j of block o, with the number k; in the other block there may be ones with the next number -/
structure Tab2 (S : Ch) (N o j k : Nat) (l : Lay) : Prop where
  lt : o < 2
  j8 : j < 8
  here : tableOf N ((S.bk o).pg.getD j []) = some (k, l)
  rest : ∀ i, i < 8 → i ≠ j → tableOf N ((S.bk o).pg.getD i []) = none
  other : ∀ i, i < 8 → tableOf N ((S.bk (1 - o)).pg.getD i []) = none ∨ ∃ l', tableOf N ((S.bk (1 - o)).pg.getD i []) = some (k + 1, l')
theorem Tab2.look {S : Ch} {N o j k : Nat} {l : Lay} (h : Tab2 S N o j k l) (hN : S.bs.length = N) : ∃ pg, lookTo S.bs 16 = some ⟨k, l, o, pg⟩ := by
  subst hN
  have hlt := h.lt
  have hj := h.j8
  have hT : ∀ i, i < 16 → i ≠ o * 8 + j → tableOf S.bs.length (pageOf S.bs (i / 8) (i % 8)) = none ∨ ∃ l', tableOf S.bs.length (pageOf S.bs (i / 8) (i % 8)) = some (k + 1, l') := fun i h1 h2 => by
    by_cases c : i / 8 = o
    · rw [c]; exact .inl (h.rest _ (by omega) (by omega))
    · rw [show i / 8 = 1 - o by omega]; exact h.other _ (by omega)
  have hm : ∀ m, m ≤ 16 → (o * 8 + j < m → lookTo S.bs m = some ⟨k, l, o, pageOf S.bs o j⟩) ∧ (¬ o * 8 + j < m → lookTo S.bs m = none ∨ ∃ g, lookTo S.bs m = some g ∧ g.num = k + 1) := fun m => by
    induction m with
    | zero => exact fun _ => ⟨fun h => by omega, fun _ => .inl rfl⟩
    | succ m ih =>
      intro hm
      obtain ⟨i1, i2⟩ := ih (by omega)
      have hs : lookTo S.bs (m + 1) = lookAt S.bs.length S.bs (lookTo S.bs m) (m / 8) (m % 8) := rfl
      rw [hs]
      unfold lookAt
      by_cases c : m = o * 8 + j
      · have e1 : m / 8 = o := by omega
        have e2 : m % 8 = j := by omega
        refine ⟨fun _ => ?_, fun h => absurd (by omega) h⟩
        rw [e1, e2, show tableOf S.bs.length (pageOf S.bs o j) = some (k, l) from h.here]
        rcases i2 (by omega) with q | ⟨g, q, hg⟩
        · rw [q]; rfl
        · rw [q]
          unfold pickK
          simp only
          rw [if_pos (by omega)]
      · rcases hT m (by omega) c with q | ⟨l', q⟩
        · rw [q]
          exact ⟨fun h => i1 (by omega), fun h => i2 (by omega)⟩
        · rw [q]
          refine ⟨fun h => ?_, fun h => ?_⟩
          · rw [i1 (by omega)]
            unfold pickK
            simp only
            rw [if_neg (by omega)]
          · rcases i2 (by omega) with p | ⟨g, p, hg⟩
            · rw [p]; exact .inr ⟨_, rfl, rfl⟩
            · rw [p]
              unfold pickK
              simp only
              rw [if_neg (by omega)]
              exact .inr ⟨g, rfl, hg⟩
  exact ⟨_, (hm 16 (Nat.le_refl _)).1 (by omega)⟩
theorem Tab2.keep {S : Ch} {s : NM.Pwr} {N f e o j k : Nat} {l l' : Lay} (h : Tab2 S N o j k l) (hF : Fine S N f e) (ho : s.off = false) (hf : f < 8) (he : e < 8) (hk : k < 1000000) (hg : l'.good) (hn : l'.n = N) :
    ∃ S' s' r f' e', S.keep s l' = (S', s', r) ∧ Fine S' N f' e' ∧ f' ≤ f ∧ e' ≤ e ∧ (∀ c, 2 ≤ c → S'.bk c = S.bk c) ∧
      ((r = 0 ∧ Pn s s' ∧ ∃ j', Tab2 S' N (1 - o) j' (k + 1) l') ∨ (r = 30 ∧ Pc s s' ∧ ((∃ j', Tab2 S' N o j' k l) ∨ ∃ j', Tab2 S' N (1 - o) j' (k + 1) l'))) := by
  have hlt := h.lt
  have hn1 := hF.n1
  obtain ⟨pg, hlk⟩ := h.look hF.len
  have hm : S.mayE s = 0 := hF.may ho (b := 0) (k := 0) (by omega) (by omega)
  have hK : S.lookK s = some ⟨k, l, o, pg⟩ := by unfold Ch.lookK; rw [if_pos hm, hlk]
  have hE : S.lookE s = 0 := by unfold Ch.lookE; rw [if_pos hm, hlk]; rfl
  have hk1 : next64 k = k + 1 := by unfold next64; omega
  have hd : (tpage (k + 1) l').length = 258 := tpage_length hg.ok
  have htb : tableOf N (tpage (k + 1) l') = some (k + 1, l') := tableOf_tpage hg hn (by omega)
  obtain ⟨d, hdd⟩ : ∃ d, d = tpage (k + 1) l' := ⟨_, rfl⟩
  have hkeep : S.keep s l' = if (S.place s ((1 - o : Nat) : Int) d).2.2 ≠ 0 then S.place s ((1 - o : Nat) : Int) d else Ch.wipes 8 (S.place s ((1 - o : Nat) : Int) d).1 (S.place s ((1 - o : Nat) : Int) d).2.1 (o : Int) := by
    unfold Ch.keep
    rw [hK, hE]
    show (if ((0 : Int) ≠ 0 ∧ (0 : Int) ≠ 35) then _ else if (S.place s (1 - (o : Int)) (tpage (next64 k) l')).2.2 ≠ 0 then S.place s (1 - (o : Int)) (tpage (next64 k) l') else Ch.wipes 8 (S.place s (1 - (o : Int)) (tpage (next64 k) l')).1 (S.place s (1 - (o : Int)) (tpage (next64 k) l')).2.1 (o : Int)) = _
    rw [if_neg (by simp), hk1, ← hdd, show (1 - (o : Int)) = ((1 - o : Nat) : Int) by omega]
  rw [← hdd] at hd htb
  rw [hkeep]
  clear hkeep hK hE hm hlk
  obtain ⟨S1, s1, r1, e1, w1, F1, le1, same1, c1⟩ := Fine.wipes 8 S s e hF ho (1 - o) (by omega) he
  have ho1 : o ≠ 1 - o := by omega
  have hoo : 1 - (1 - o) = o := by omega
  have hplace : S.place s ((1 - o : Nat) : Int) d = if r1 = 0 then Ch.puts 8 0 S1 s1 ((1 - o : Nat) : Int) d else (S1, s1, r1) := by
    unfold Ch.place
    rw [w1]
  rcases c1 with ⟨rfl, p1, b1⟩ | ⟨rfl, p1, n, hn8, b1⟩
  · rw [if_pos rfl] at hplace
    have hff : ∀ i, i < 8 → (S1.bk (1 - o)).pg.getD i [] = NM.ff := fun i hi => by rw [b1]; exact ffs_at hi
    obtain ⟨S2, s2, r2, f2, w2, F2, le2, same2, c2⟩ := Fine.puts hd htb 8 0 S1 s1 f F1 p1.1 (1 - o) (by omega) rfl hf (by rw [b1]; rfl) (fun i hi => by rw [hff i hi]; exact tableOf_ff) (fun i _ hi => hff i hi)
    rw [w2] at hplace
    rw [hplace]
    have g2 : S2.bk o = S.bk o := (same2 o ho1).trans (same1 o ho1)
    rcases c2 with ⟨rfl, p2, j2, hj2, t2, n2⟩ | ⟨rfl, p2, n2⟩
    · rw [if_neg (by simp)]
      obtain ⟨S3, s3, r3, e3, w3, F3, le3, same3, c3⟩ := Fine.wipes 8 S2 s2 e1 F2 p2.1 o (by omega) (by omega)
      have g3 : S3.bk (1 - o) = S2.bk (1 - o) := same3 _ (fun h => ho1 h.symm)
      refine ⟨S3, s3, r3, f2, e3, w3, F3, le2, by omega, fun c hc => (same3 c (by omega)).trans ((same2 c (by omega)).trans (same1 c (by omega))), ?_⟩
      rcases c3 with ⟨rfl, p3, b3⟩ | ⟨rfl, p3, n, hn8, b3⟩
      · refine .inl ⟨rfl, (p1.trans p2).trans p3, j2, by omega, hj2, by rw [g3]; exact t2, fun i hi hij => by rw [g3]; exact n2 i hi hij, fun i hi => .inl ?_⟩
        rw [hoo, b3]
        show tableOf N ((List.replicate 8 NM.ff).getD i []) = none
        rw [ffs_at hi]
        exact tableOf_ff
      · refine .inr ⟨rfl, (p1.trans p2).cut p3, ?_⟩
        have hpg : ∀ i, (S3.bk o).pg.getD i [] = if i < n then NM.ff else (S.bk o).pg.getD i [] := fun i => by
          rw [b3, g2]
          exact wipP_page (hF.oks o (by omega)) hn8
        by_cases c : j < n
        · refine .inr ⟨j2, by omega, hj2, by rw [g3]; exact t2, fun i hi hij => by rw [g3]; exact n2 i hi hij, fun i hi => .inl ?_⟩
          rw [hoo, hpg]
          split
          · exact tableOf_ff
          · exact h.rest i hi (by omega)
        · refine .inl ⟨j, hlt, h.j8, by rw [hpg, if_neg c]; exact h.here, fun i hi hij => ?_, fun i hi => ?_⟩
          · rw [hpg]
            split
            · exact tableOf_ff
            · exact h.rest i hi hij
          · rw [g3]
            by_cases q : i = j2
            · rw [q]; exact .inr ⟨l', t2⟩
            · exact .inl (n2 i hi q)
    · rw [if_pos (by simp)]
      refine ⟨S2, s2, 30, f2, e1, rfl, F2, le2, le1, fun c hc => (same2 c (by omega)).trans (same1 c (by omega)), .inr ⟨rfl, p1.cut p2, .inl ⟨j, hlt, h.j8, by rw [g2]; exact h.here, fun i hi hij => by rw [g2]; exact h.rest i hi hij, fun i hi => ?_⟩⟩⟩
      rcases n2 i hi with q | q
      · exact .inl q
      · exact .inr ⟨l', q⟩
  · rw [if_neg (by simp)] at hplace
    rw [hplace, if_pos (by simp)]
    have g1 : S1.bk o = S.bk o := same1 o ho1
    refine ⟨S1, s1, 30, f, e1, rfl, F1, Nat.le_refl _, le1, fun c hc => same1 c (by omega), .inr ⟨rfl, p1, .inl ⟨j, hlt, h.j8, by rw [g1]; exact h.here, fun i hi hij => by rw [g1]; exact h.rest i hi hij, fun i hi => ?_⟩⟩⟩
    have hpg : (S1.bk (1 - o)).pg.getD i [] = if i < n then NM.ff else (S.bk (1 - o)).pg.getD i [] := by
      rw [b1]
      exact wipP_page (hF.oks (1 - o) (by omega)) hn8
    rw [hpg]
    split
    · exact .inl tableOf_ff
    · exact h.other i hi
/-- the chip keeps this table; so many were kept so far -/
def Tabs (S : Ch) (N : Nat) (l : Lay) (K : Nat) : Prop := ∃ o j k, k ≤ K ∧ Tab2 S N o j k l
theorem Tabs.keep {S : Ch} {s : NM.Pwr} {N f e K : Nat} {l l' : Lay} (h : Tabs S N l K) (hF : Fine S N f e) (ho : s.off = false) (hf : f < 8) (he : e < 8) (hk : K < 1000000) (hg : l'.good) (hn : l'.n = N) :
    ∃ S' s' r f' e', S.keep s l' = (S', s', r) ∧ Fine S' N f' e' ∧ f' ≤ f ∧ e' ≤ e ∧ (∀ c, 2 ≤ c → S'.bk c = S.bk c) ∧
      ((r = 0 ∧ Pn s s' ∧ Tabs S' N l' (K + 1)) ∨ (r = 30 ∧ Pc s s' ∧ (Tabs S' N l (K + 1) ∨ Tabs S' N l' (K + 1)))) := by
  obtain ⟨o, j, k, hkK, hT⟩ := h
  obtain ⟨S', s', r, f', e', q1, q2, q3, q4, q5, q6⟩ := hT.keep hF ho hf he (by omega) hg hn
  refine ⟨S', s', r, f', e', q1, q2, q3, q4, q5, ?_⟩
  rcases q6 with ⟨r0, p, j', t⟩ | ⟨r0, p, ⟨j', t⟩ | ⟨j', t⟩⟩
  · exact .inl ⟨r0, p, _, _, _, by omega, t⟩
  · exact .inr ⟨r0, p, .inl ⟨_, _, _, by omega, t⟩⟩
  · exact .inr ⟨r0, p, .inr ⟨_, _, _, by omega, t⟩⟩
theorem Tabs.same {S S' : Ch} {N K : Nat} {l : Lay} (h : Tabs S N l K) (hs : ∀ c, c < 2 → S'.bk c = S.bk c) : Tabs S' N l K := by
  obtain ⟨o, j, k, hk, t⟩ := h
  have hlt := t.lt
  have e1 := hs o hlt
  have e2 := hs (1 - o) (by omega)
  exact ⟨o, j, k, hk, t.lt, t.j8, by rw [e1]; exact t.here, by rw [e1]; exact t.rest, by rw [e2]; exact t.other⟩
end Go.Proofs.YtdiocjneakfdgaaGreatDoor

/- What a disk's calls do, as plain functions, and what they leave, though acts fail and the power may end: plain facts. -/
namespace Go.Proofs.YtdiocjneakfdgaaGreatDoor
open Go.RowKit
/-- a page as it is to stand elsewhere -/
def mendP (p : List UInt8) : List UInt8 := if (FM.readM p).2.2.2 = 0 then (FM.writeM (FM.readM p).1 (FM.readM p).2.1).1 else p
/-- pages written one behind the other, from page i on -/
def Ch.fills (b : Int) : Nat → Ch → NM.Pwr → List (List UInt8) → Ch × NM.Pwr × Int
  | _, S, s, [] => (S, s, 0)
  | i, S, s, p :: ps => if (S.program b (i : Int) p s).2.2 = 0 then Ch.fills b (i + 1) (S.program b (i : Int) p s).1 (S.program b (i : Int) p s).2.1 ps else S.program b (i : Int) p s
def Ch.fill (S : Ch) (s : NM.Pwr) (b : Int) (ps : List (List UInt8)) : Ch × NM.Pwr × Int :=
  if (S.erase b s).2.2 = 0 then Ch.fills b 0 (S.erase b s).1 (S.erase b s).2.1 ps else S.erase b s
/-- the pages of a block ahead of one, mended -/
def Ch.aheads (S : Ch) (b : Nat) (k : Nat) : List (List UInt8) := (List.range k).map fun i => mendP (pageOf S.bs b i)
/-- a disk: its chip, its power, its table's layout, whether that is unsure -/
structure DS where
  S : Ch
  s : NM.Pwr
  l : Lay
  u : Bool
def DS.at_ (X : DS) (b : Int) : Int := if 0 ≤ b ∧ b < ((X.l.n - 6 : Nat) : Int) then ((X.l.at_.getD b.toNat 0 : Nat) : Int) else -1
def DS.move (x : Int) (ps : List (List UInt8)) : Nat → DS → DS × Int
  | 0, X => (X, 34)
  | k + 1, X =>
    match X.l.spare with
    | none => (X, 34)
    | some b =>
      if (X.S.fill X.s (b : Int) ps).2.2 = 0 then
        (⟨((X.S.fill X.s (b : Int) ps).1.swapping (X.S.fill X.s (b : Int) ps).2.1 X.l x (b : Int)).1, ((X.S.fill X.s (b : Int) ps).1.swapping (X.S.fill X.s (b : Int) ps).2.1 X.l x (b : Int)).2.1, (X.S.fill X.s (b : Int) ps).1.swapLay (X.S.fill X.s (b : Int) ps).2.1 X.l x (b : Int), decide (((X.S.fill X.s (b : Int) ps).1.swapping (X.S.fill X.s (b : Int) ps).2.1 X.l x (b : Int)).2.2 ≠ 0)⟩, ((X.S.fill X.s (b : Int) ps).1.swapping (X.S.fill X.s (b : Int) ps).2.1 X.l x (b : Int)).2.2)
      else if (X.S.fill X.s (b : Int) ps).2.2 ≠ 33 then (⟨(X.S.fill X.s (b : Int) ps).1, (X.S.fill X.s (b : Int) ps).2.1, X.l, X.u⟩, (X.S.fill X.s (b : Int) ps).2.2)
      else if ((X.S.fill X.s (b : Int) ps).1.losing (X.S.fill X.s (b : Int) ps).2.1 X.l (b : Int)).2.2 ≠ 0 then
        (⟨((X.S.fill X.s (b : Int) ps).1.losing (X.S.fill X.s (b : Int) ps).2.1 X.l (b : Int)).1, ((X.S.fill X.s (b : Int) ps).1.losing (X.S.fill X.s (b : Int) ps).2.1 X.l (b : Int)).2.1, (X.S.fill X.s (b : Int) ps).1.lostLay (X.S.fill X.s (b : Int) ps).2.1 X.l (b : Int), true⟩, ((X.S.fill X.s (b : Int) ps).1.losing (X.S.fill X.s (b : Int) ps).2.1 X.l (b : Int)).2.2)
      else DS.move x ps k ⟨((X.S.fill X.s (b : Int) ps).1.losing (X.S.fill X.s (b : Int) ps).2.1 X.l (b : Int)).1, ((X.S.fill X.s (b : Int) ps).1.losing (X.S.fill X.s (b : Int) ps).2.1 X.l (b : Int)).2.1, (X.S.fill X.s (b : Int) ps).1.lostLay (X.S.fill X.s (b : Int) ps).2.1 X.l (b : Int), false⟩
def DS.program (X : DS) (b k : Int) (p : List UInt8) : DS × Int :=
  if (X.S.program (X.at_ b) k p X.s).2.2 ≠ 33 then (⟨(X.S.program (X.at_ b) k p X.s).1, (X.S.program (X.at_ b) k p X.s).2.1, X.l, X.u⟩, (X.S.program (X.at_ b) k p X.s).2.2)
  else DS.move b ((X.S.program (X.at_ b) k p X.s).1.aheads (X.at_ b).toNat k.toNat ++ [p]) (5 - X.l.losses) ⟨(X.S.program (X.at_ b) k p X.s).1, (X.S.program (X.at_ b) k p X.s).2.1, X.l, X.u⟩
def DS.erase (X : DS) (b : Int) : DS × Int :=
  if (X.S.erase (X.at_ b) X.s).2.2 ≠ 33 then (⟨(X.S.erase (X.at_ b) X.s).1, (X.S.erase (X.at_ b) X.s).2.1, X.l, X.u⟩, (X.S.erase (X.at_ b) X.s).2.2)
  else DS.move b [] (5 - X.l.losses) ⟨(X.S.erase (X.at_ b) X.s).1, (X.S.erase (X.at_ b) X.s).2.1, X.l, X.u⟩
/-- a block with these pages, the others blank -/
def fullB (ps : List (List UInt8)) : Bk := ⟨ps ++ List.replicate (8 - ps.length) NM.ff, ps.length, false⟩
theorem fills_spec {N e : Nat} : ∀ (ps : List (List UInt8)) (T : List (List UInt8)) (S : Ch) (s : NM.Pwr) (f : Nat), Fine S N f e → s.off = false → ∀ b, b < N → S.bk b = fullB T → T.length + ps.length ≤ 8 → (∀ p ∈ ps, p.length = 258) →
    ∃ S' s' r f', Ch.fills (b : Int) T.length S s ps = (S', s', r) ∧ Fine S' N f' e ∧ f' ≤ f ∧ (∀ c, c ≠ b → S'.bk c = S.bk c) ∧
      ((r = 0 ∧ Pn s s' ∧ S'.bk b = fullB (T ++ ps)) ∨ (r = 33 ∧ Pn s s' ∧ f' < f) ∨ (r = 30 ∧ Pc s s'))
  | [], T, S, s, f, h, ho, b, hb, hB, hl, hp => ⟨S, s, 0, f, rfl, h, Nat.le_refl _, fun _ _ => rfl, .inl ⟨rfl, Pn.refl ho, by rw [List.append_nil]; exact hB⟩⟩
  | p :: ps, T, S, s, f, h, ho, b, hb, hB, hl, hp => by
    rw [List.length_cons] at hl
    have hd := hp p (List.mem_cons_self ..)
    obtain ⟨S1, s1, r, n, f1, hE, hF, hbs, _, _, hc⟩ := h.prog ho hb (k := T.length) (by omega) (by rw [hB]; rfl) p
    have hlen := h.len
    have hbk := bk_set (by omega) hbs
    have hsame : ∀ c, c ≠ b → S1.bk c = S.bk c := fun c hc => by rw [hbk, if_neg hc]
    have hself := hbk b
    rw [if_pos rfl, hB] at hself
    have hat : (fullB T).pg.getD T.length [] = NM.ff := by
      show (T ++ List.replicate (8 - T.length) NM.ff).getD T.length [] = _
      rw [List.getD_eq_getElem?_getD, List.getElem?_append_right (Nat.le_refl _), Nat.sub_self, List.getElem?_replicate, if_pos (by omega)]
      rfl
    have hset : ∀ q, (fullB T).pg.set T.length q = (T ++ [q]) ++ List.replicate (8 - (T ++ [q]).length) NM.ff := fun q => by
      show (T ++ List.replicate (8 - T.length) NM.ff).set T.length q = _
      rw [List.set_append_right _ _ (Nat.le_refl _), Nat.sub_self, List.length_append, List.length_singleton, show 8 - T.length = (8 - (T.length + 1)) + 1 by omega, List.replicate_succ, List.set_cons_zero, List.append_assoc]
      rfl
    rw [hat, hset] at hself
    unfold Ch.fills
    rw [hE]
    rcases hc with ⟨rfl, rfl, hpn, rfl, _⟩ | ⟨rfl, rfl, hpn, hf1, _⟩ | ⟨rfl, hn, hpc, rfl⟩
    · rw [if_pos rfl]
      rw [wr_all hd] at hself
      have hB1 : S1.bk b = fullB (T ++ [p]) := by
        rw [hself]
        unfold fullB
        rw [List.length_append]
        rfl
      obtain ⟨S2, s2, r2, f2, w1, w2, w3, w4, w5⟩ := fills_spec ps (T ++ [p]) S1 s1 _ hF hpn.1 b hb hB1 (by rw [List.length_append, List.length_singleton]; omega) (fun q hq => hp q (List.mem_cons_of_mem _ hq))
      rw [List.length_append, List.length_singleton] at w1
      refine ⟨S2, s2, r2, f2, w1, w2, w3, fun c hc => (w4 c hc).trans (hsame c hc), ?_⟩
      rcases w5 with ⟨q1, q2, q3⟩ | ⟨q1, q2, q3⟩ | ⟨q1, q2⟩
      · exact .inl ⟨q1, hpn.trans q2, by rw [q3, List.append_assoc]; rfl⟩
      · exact .inr (.inl ⟨q1, hpn.trans q2, q3⟩)
      · exact .inr (.inr ⟨q1, hpn.cut q2⟩)
    · rw [if_neg (by simp)]
      exact ⟨S1, s1, 33, f1, rfl, hF, by omega, hsame, .inr (.inl ⟨rfl, hpn, by omega⟩)⟩
    · rw [if_neg (by simp)]
      exact ⟨S1, s1, 30, _, rfl, hF, Nat.le_refl _, hsame, .inr (.inr ⟨rfl, hpc⟩)⟩
theorem fill_spec {N f e : Nat} {S : Ch} {s : NM.Pwr} (h : Fine S N f e) (ho : s.off = false) {b : Nat} (hb : b < N) {ps : List (List UInt8)} (hl : ps.length ≤ 8) (hp : ∀ p ∈ ps, p.length = 258) :
    ∃ S' s' r f' e', S.fill s (b : Int) ps = (S', s', r) ∧ Fine S' N f' e' ∧ f' ≤ f ∧ e' ≤ e ∧ (∀ c, c ≠ b → S'.bk c = S.bk c) ∧
      ((r = 0 ∧ Pn s s' ∧ S'.bk b = fullB ps) ∨ (r = 33 ∧ Pn s s' ∧ f' + e' < f + e) ∨ (r = 30 ∧ Pc s s')) := by
  obtain ⟨S1, s1, r, n, nx, e1, hE, hF, hbs, hc⟩ := h.erase ho hb
  have hlen := h.len
  have hbk := bk_set (by omega) hbs
  have hsame : ∀ c, c ≠ b → S1.bk c = S.bk c := fun c hc => by rw [hbk, if_neg hc]
  have hself := hbk b
  rw [if_pos rfl] at hself
  unfold Ch.fill
  rw [hE]
  rcases hc with ⟨rfl, rfl, rfl, hpn, rfl⟩ | ⟨rfl, rfl, rfl, hpn, he1⟩ | ⟨rfl, hn, rfl, hpc, rfl⟩
  · rw [if_pos rfl]
    rw [wipP_all (h.oks b hb)] at hself
    obtain ⟨S2, s2, r2, f2, w1, w2, w3, w4, w5⟩ := fills_spec ps [] S1 s1 f hF hpn.1 b hb (by rw [hself]; rfl) (by simpa using hl) hp
    refine ⟨S2, s2, r2, f2, _, w1, w2, w3, Nat.le_refl _, fun c hc => (w4 c hc).trans (hsame c hc), ?_⟩
    rcases w5 with ⟨q1, q2, q3⟩ | ⟨q1, q2, q3⟩ | ⟨q1, q2⟩
    · exact .inl ⟨q1, hpn.trans q2, q3⟩
    · exact .inr (.inl ⟨q1, hpn.trans q2, by omega⟩)
    · exact .inr (.inr ⟨q1, hpn.cut q2⟩)
  · rw [if_neg (by simp)]
    exact ⟨S1, s1, 33, f, e1, rfl, hF, Nat.le_refl _, by omega, hsame, .inr (.inl ⟨rfl, hpn, by omega⟩)⟩
  · rw [if_neg (by simp)]
    exact ⟨S1, s1, 30, f, _, rfl, hF, Nat.le_refl _, Nat.le_refl _, hsame, .inr (.inr ⟨rfl, hpc⟩)⟩
/-- one more block is lost -/
theorem losses_more {l l2 : Lay} {y : Nat} (hy : y < l.n) (hl : l.lostAt y = false) (hn : l2.n = l.n) (hla : ∀ c, l2.lostAt c = (decide (c = y) || l.lostAt c)) : l2.losses = l.losses + 1 := by
  have hs : ∀ k, l2.lossesTo k = l.lossesTo k + if y < k then 1 else 0 := fun k => by
    induction k with
    | zero => rfl
    | succ k ih =>
      rw [Lay.lossesTo_succ, Lay.lossesTo_succ, ih, hla k]
      by_cases e : k = y
      · subst e
        rw [hl, decide_eq_true rfl, if_neg (show ¬ k < k by omega), if_pos (show k < k + 1 by omega)]
        simp
      · rw [decide_eq_false e, Bool.false_or]
        by_cases c : y < k
        · rw [if_pos c, if_pos (show y < k + 1 by omega)]; omega
        · rw [if_neg c, if_neg (show ¬ y < k + 1 by omega)]; omega
  unfold Lay.losses
  rw [hn, hs, if_pos hy]
section
variable {l : Lay} {b x : Nat}
theorem Lay.good.loseLoss (h : l.good) (hb : l.isSpare (b : Int) = true) : (l.setLost b).losses = l.losses + 1 := by
  obtain ⟨_, hn, hl, _⟩ := spare_iff.1 hb
  exact losses_more hn hl rfl (fun c => lostAt_set (by rw [h.ok.o]; have := h.ok.n2; omega) c)
theorem Lay.good.here (h : l.good) (hx : x < l.n - 6) : l.at_.getD x 0 ∈ l.used ∧ 2 ≤ l.at_.getD x 0 ∧ l.at_.getD x 0 < l.n ∧ l.lostAt (l.at_.getD x 0) = false := by
  have hul := Lay.used_length h.ok
  have hy : l.at_.getD x 0 = l.used.getD x 0 := by
    unfold Lay.used
    rw [List.getD_eq_getElem?_getD, List.getD_eq_getElem?_getD, List.getElem?_take_of_lt hx]
  have hmem : l.at_.getD x 0 ∈ l.used := by
    rw [hy, List.getD_eq_getElem?_getD, List.getElem?_eq_getElem (by omega)]
    exact List.getElem_mem _
  exact ⟨hmem, h.inn _ hmem⟩
theorem Lay.good.swapLoss (h : l.good) (hx : x < l.n - 6) : (l.swap x b).losses = l.losses + 1 := by
  obtain ⟨_, _, hn, hl⟩ := h.here hx
  exact losses_more hn hl rfl (fun c => lostAt_set (l := l) (by rw [h.ok.o]; have := h.ok.n2; omega) c)
theorem Lay.good.apart (h : l.good) {y : Nat} (hx : x < l.n - 6) (hy : y < l.n - 6) (hxy : y ≠ x) : l.at_.getD y 0 ≠ l.at_.getD x 0 := by
  have hul := Lay.used_length h.ok
  have e : ∀ z, z < l.n - 6 → l.at_.getD z 0 = l.used.getD z 0 := fun z hz => by
    unfold Lay.used
    rw [List.getD_eq_getElem?_getD, List.getD_eq_getElem?_getD, List.getElem?_take_of_lt hz]
  rw [e x hx, e y hy, List.getD_eq_getElem?_getD, List.getD_eq_getElem?_getD, List.getElem?_eq_getElem (by omega), List.getElem?_eq_getElem (by omega), Option.getD_some, Option.getD_some]
  intro he
  have hnd := List.pairwise_iff_getElem.1 h.nd
  rcases Nat.lt_or_gt_of_ne hxy with c | c
  · exact hnd y x (by omega) (by omega) c he
  · exact hnd x y (by omega) (by omega) c he.symm
theorem Lay.good.find (h : l.good) (h4 : l.losses < 4) : ∃ b, l.spare = some b ∧ l.isSpare (b : Int) = true := by
  cases e : l.spare with
  | some b => exact ⟨b, rfl, spare_some e⟩
  | none =>
    exfalso
    have hul := Lay.used_length h.ok
    have hn1 := h.ok.n1
    have hx := nodup_len (List.range' 2 (l.n - 2)) (l.used ++ l.lostTo l.n) List.nodup_range' (fun c hc => by
      rw [List.mem_range'_1] at hc
      rw [List.mem_append]
      cases e2 : l.lostAt c with
      | true => exact .inr (mem_lostTo.2 ⟨by omega, e2⟩)
      | false => exact .inl (spare_none e c hc.1 (by omega) e2))
    rw [List.length_append, List.length_range', hul] at hx
    have e3 : (l.lostTo l.n).length = l.losses := rfl
    omega
theorem Lay.swap_at (h : l.good) (hx : x < l.n - 6) (y : Nat) : (l.swap x b).at_.getD y 0 = if y = x then b else l.at_.getD y 0 := by
  show (l.at_.set x b).getD y 0 = _
  rw [List.getD_eq_getElem?_getD, List.getElem?_set, List.getD_eq_getElem?_getD]
  by_cases c : x = y
  · subst c
    have := h.ok.a
    have := h.ok.n2
    simp only [if_true]
    rw [if_pos (by omega)]
    rfl
  · rw [if_neg c, if_neg (fun q => c q.symm)]
end
/-- a disk that is in order, but for its power -/
structure DOk (X : DS) (N f e K : Nat) : Prop where
  fine : Fine X.S N f e
  sz : X.l.n = N
  n2 : N ≤ 40
  good : X.l.good
  tab : Tabs X.S N X.l K
  room : X.l.losses + f + e ≤ 4
/-- the chip's block of a logical one -/
def DS.blk (X : DS) (y : Nat) : Bk := X.S.bk (X.l.at_.getD y 0)
theorem Tabs.more {S : Ch} {N K K' : Nat} {l : Lay} (h : Tabs S N l K) (hK : K ≤ K') : Tabs S N l K' := by
  obtain ⟨o, j, k, hk, t⟩ := h
  exact ⟨o, j, k, by omega, t⟩
theorem DOk.more {X : DS} {N f e K K' : Nat} (h : DOk X N f e K) (hK : K ≤ K') : DOk X N f e K' := ⟨h.fine, h.sz, h.n2, h.good, h.tab.more hK, h.room⟩
/-- what became of a disk's blocks: x has the block B, the others stay -/
def Moved (X Y : DS) (N x : Nat) (B : Bk) : Prop := Y.blk x = B ∧ ∀ y, y < N - 6 → y ≠ x → Y.blk y = X.blk y
def Kept (X Y : DS) (N : Nat) : Prop := ∀ y, y < N - 6 → Y.blk y = X.blk y
theorem move_spec {N x : Nat} {ps : List (List UInt8)} (hx : x < N - 6) (hl : ps.length ≤ 8) (hp : ∀ p ∈ ps, p.length = 258) : ∀ (k : Nat) (X : DS) (f e K : Nat), DOk X N f e K → X.s.off = false → X.u = false → X.l.losses + f + e ≤ 3 → f + e < k → K + k < 1000000 →
    ∃ Y r f' e', DS.move (x : Int) ps k X = (Y, r) ∧ f' ≤ f ∧ e' ≤ e ∧
      ((r = 0 ∧ Pn X.s Y.s ∧ Y.u = false ∧ DOk Y N f' e' (K + k) ∧ Y.l.losses + f' + e' ≤ X.l.losses + f + e + 1 ∧ X.l.losses < Y.l.losses ∧ Moved X Y N x (fullB ps)) ∨
       (r = 30 ∧ Pc X.s Y.s ∧ ∃ l2, DOk ⟨Y.S, Y.s, l2, false⟩ N f' e' (K + k) ∧ l2.losses + f' + e' ≤ X.l.losses + f + e + 1 ∧ (Kept X ⟨Y.S, Y.s, l2, false⟩ N ∨ Moved X ⟨Y.S, Y.s, l2, false⟩ N x (fullB ps))))
  | 0, _, _, _, _, _, _, _, _, h, _ => absurd h (by omega)
  | k + 1, X, f, e, K, h, ho, hu, h3, hfe, hK => by
    obtain ⟨b, hs, hb⟩ := h.good.find (by omega)
    obtain ⟨b2, bn, bl, bu⟩ := spare_iff.1 hb
    have hsz := h.sz
    have hn2 := h.n2
    have hxl : x < X.l.n - 6 := by omega
    rw [hsz] at bn
    obtain ⟨S1, s1, r1, f1, e1, w1, F1, lf1, le1, same1, c1⟩ := fill_spec h.fine ho bn hl hp
    have hT1 : Tabs S1 N X.l K := h.tab.same (fun c hc => same1 c (by omega))
    have hk1 : ∀ y, y < N - 6 → S1.bk (X.l.at_.getD y 0) = X.blk y := fun y hy => same1 _ (fun q => bu (q ▸ (h.good.here (by omega)).1))
    have hbad2 : ∀ y, y < N - 6 → 2 ≤ X.l.at_.getD y 0 := fun y hy => (h.good.here (by omega)).2.1
    have hroom := h.room
    unfold DS.move
    rw [hs]
    simp only
    rw [w1]
    rcases c1 with ⟨rfl, p1, q1⟩ | ⟨rfl, p1, q1⟩ | ⟨rfl, p1⟩
    · simp only [if_true]
      have hcan : X.l.canSwap (x : Int) (b : Int) = true := by
        unfold Lay.canSwap
        rw [hb, Bool.and_true, decide_eq_true_eq]
        omega
      have hg2 := h.good.swap hxl hb
      have hls : (X.l.swap x b).losses = X.l.losses + 1 := h.good.swapLoss hxl
      obtain ⟨S2, s2, r2, f2, e2, w2, F2, lf2, le2, same2, c2⟩ := hT1.keep F1 p1.1 (by omega) (by omega) (by omega) hg2 (show (X.l.swap x b).n = N from hsz)
      have esw : S1.swapping s1 X.l (x : Int) (b : Int) = (S2, s2, r2) := by
        unfold Ch.swapping
        rw [if_pos hcan, Int.toNat_natCast, Int.toNat_natCast, w2]
      have hlay : S1.swapLay s1 X.l (x : Int) (b : Int) = if r2 = 0 then X.l.swap x b else X.l := by
        unfold Ch.swapLay Ch.lays
        rw [if_pos hcan, Int.toNat_natCast, Int.toNat_natCast, w2]
      rw [esw, hlay]
      have hmv : ∀ s u, Moved X ⟨S2, s, X.l.swap x b, u⟩ N x (fullB ps) := fun s u => by
        refine ⟨?_, fun y hy hyx => ?_⟩
        · show S2.bk ((X.l.swap x b).at_.getD x 0) = _
          rw [Lay.swap_at h.good hxl, if_pos rfl, same2 b b2, q1]
        · show S2.bk ((X.l.swap x b).at_.getD y 0) = _
          rw [Lay.swap_at h.good hxl, if_neg hyx, same2 _ (hbad2 y hy), hk1 y hy]
      have hkp : ∀ s u, Kept X ⟨S2, s, X.l, u⟩ N := fun s u y hy => by
        show S2.bk (X.l.at_.getD y 0) = _
        rw [same2 _ (hbad2 y hy), hk1 y hy]
      rcases c2 with ⟨rfl, p2, t2⟩ | ⟨rfl, p2, t2⟩
      · refine ⟨_, _, f2, e2, rfl, by omega, by omega, .inl ⟨rfl, p1.trans p2, rfl, ⟨F2, hsz, hn2, hg2, t2.more (by omega), ?_⟩, ?_, ?_, hmv _ _⟩⟩
        · show (X.l.swap x b).losses + f2 + e2 ≤ 4; omega
        · show (X.l.swap x b).losses + f2 + e2 ≤ _; omega
        · show _ < (X.l.swap x b).losses; omega
      · refine ⟨_, _, f2, e2, rfl, by omega, by omega, .inr ⟨rfl, p1.cut p2, ?_⟩⟩
        rcases t2 with t2 | t2
        · exact ⟨X.l, ⟨F2, hsz, hn2, h.good, t2.more (by omega), by show X.l.losses + f2 + e2 ≤ 4; omega⟩, by omega, .inl (hkp _ _)⟩
        · exact ⟨X.l.swap x b, ⟨F2, hsz, hn2, hg2, t2.more (by omega), by show (X.l.swap x b).losses + f2 + e2 ≤ 4; omega⟩, by omega, .inr (hmv _ _)⟩
    · simp only [show ¬ ((33 : Int) = 0) by decide, if_false, show ¬ ((33 : Int) ≠ 33) by decide]
      have hg2 := h.good.lose hb
      have hls : (X.l.setLost b).losses = X.l.losses + 1 := h.good.loseLoss hb
      obtain ⟨S2, s2, r2, f2, e2, w2, F2, lf2, le2, same2, c2⟩ := hT1.keep F1 p1.1 (by omega) (by omega) (by omega) hg2 (show (X.l.setLost b).n = N from hsz)
      have esw : S1.losing s1 X.l (b : Int) = (S2, s2, r2) := by
        unfold Ch.losing
        rw [if_pos hb, Int.toNat_natCast, w2]
      have hlay : S1.lostLay s1 X.l (b : Int) = if r2 = 0 then X.l.setLost b else X.l := by
        unfold Ch.lostLay Ch.lays
        rw [if_pos hb, Int.toNat_natCast, w2]
      rw [esw, hlay]
      have hkp : ∀ s l2 u, l2.at_ = X.l.at_ → Kept X ⟨S2, s, l2, u⟩ N := fun s l2 u hl2 y hy => by
        show S2.bk (l2.at_.getD y 0) = _
        rw [hl2, same2 _ (hbad2 y hy), hk1 y hy]
      rcases c2 with ⟨rfl, p2, t2⟩ | ⟨rfl, p2, t2⟩
      · simp only [show ¬ ((0 : Int) ≠ 0) by decide, if_false, if_true]
        have hD2 : DOk ⟨S2, s2, X.l.setLost b, false⟩ N f2 e2 (K + 1) := ⟨F2, hsz, hn2, hg2, t2, by show (X.l.setLost b).losses + f2 + e2 ≤ 4; omega⟩
        obtain ⟨Y, r3, f3, e3, w3, lf3, le3, c3⟩ := move_spec hx hl hp k ⟨S2, s2, X.l.setLost b, false⟩ f2 e2 (K + 1) hD2 p2.1 rfl (by show (X.l.setLost b).losses + f2 + e2 ≤ 3; omega) (by omega) (by omega)
        rw [show K + 1 + k = K + (k + 1) by omega] at c3
        have hkk := hkp s2 (X.l.setLost b) false rfl
        have hmv : ∀ Z : DS, Moved ⟨S2, s2, X.l.setLost b, false⟩ Z N x (fullB ps) → Moved X Z N x (fullB ps) := fun Z hZ => ⟨hZ.1, fun y hy hyx => (hZ.2 y hy hyx).trans (hkk y hy)⟩
        have hls' : (DS.mk S2 s2 (X.l.setLost b) false).l.losses = X.l.losses + 1 := hls
        refine ⟨Y, r3, f3, e3, w3, by omega, by omega, ?_⟩
        rcases c3 with ⟨z1, z2, z3, z4, z5, z6, z7⟩ | ⟨z1, z2, l3, z4, z5, z6⟩
        · exact .inl ⟨z1, (p1.trans p2).trans z2, z3, z4, by omega, by omega, hmv Y z7⟩
        · refine .inr ⟨z1, (p1.trans p2).cut z2, l3, z4, by omega, ?_⟩
          rcases z6 with z6 | z6
          · exact .inl (fun y hy => (z6 y hy).trans (hkk y hy))
          · exact .inr (hmv _ z6)
      · simp only [show ((30 : Int) ≠ 0) by decide, if_true, ne_eq, not_false_eq_true]
        refine ⟨_, _, f2, e2, rfl, by omega, by omega, .inr ⟨rfl, p1.cut p2, ?_⟩⟩
        rcases t2 with t2 | t2
        · exact ⟨X.l, ⟨F2, hsz, hn2, h.good, t2.more (by omega), by show X.l.losses + f2 + e2 ≤ 4; omega⟩, by omega, .inl (hkp _ _ _ rfl)⟩
        · exact ⟨X.l.setLost b, ⟨F2, hsz, hn2, hg2, t2.more (by omega), by show (X.l.setLost b).losses + f2 + e2 ≤ 4; omega⟩, by omega, .inl (hkp _ _ _ rfl)⟩
    · simp only [show ¬ ((30 : Int) = 0) by decide, if_false, show ((30 : Int) ≠ 33) by decide, if_true, ne_eq, not_false_eq_true]
      exact ⟨_, _, f1, e1, rfl, lf1, le1, .inr ⟨rfl, p1, X.l, ⟨F1, hsz, hn2, h.good, hT1.more (by omega), by show X.l.losses + f1 + e1 ≤ 4; omega⟩, by omega, .inl (fun y hy => hk1 y hy)⟩⟩
/-- what a Program leaves of a block's pages: those ahead as they were, or mended -/
def Fits (B B' : Bk) (k : Nat) (p : Option (List UInt8)) : Prop :=
  B'.nx = k + 1 ∧ (∀ i, i < k → B'.pg.getD i [] = B.pg.getD i [] ∨ B'.pg.getD i [] = mendP (B.pg.getD i [])) ∧ (∀ q, p = some q → B'.pg.getD k [] = q) ∧ ∀ i, k < i → i < 8 → B.pg.getD i [] = NM.ff → B'.pg.getD i [] = NM.ff
theorem aheads_length (S : Ch) (b k : Nat) : (S.aheads b k).length = k := by simp [Ch.aheads]
theorem full_at {ps : List (List UInt8)} {i : Nat} (h8 : ps.length ≤ 8) (hi : i < 8) : (fullB ps).pg.getD i [] = if i < ps.length then ps.getD i [] else NM.ff := by
  show (ps ++ List.replicate (8 - ps.length) NM.ff).getD i [] = _
  by_cases c : i < ps.length
  · rw [if_pos c, List.getD_eq_getElem?_getD, List.getElem?_append_left c, List.getD_eq_getElem?_getD]
  · rw [if_neg c, List.getD_eq_getElem?_getD, List.getElem?_append_right (by omega), List.getElem?_replicate, if_pos (by omega)]
    rfl
theorem fits_full {S : Ch} {b k : Nat} {B : Bk} {p : List UInt8} (hk : k < 8) (hB : ∀ i, i < k → pageOf S.bs b i = B.pg.getD i []) : Fits B (fullB (S.aheads b k ++ [p])) k (some p) := by
  have hl : (S.aheads b k ++ [p]).length = k + 1 := by rw [List.length_append, aheads_length]; rfl
  refine ⟨hl, fun i hi => .inr ?_, fun q hq => ?_, fun i h1 h2 _ => ?_⟩
  · rw [full_at (by omega) (by omega), if_pos (by omega), List.getD_eq_getElem?_getD, List.getElem?_append_left (by rw [aheads_length]; exact hi)]
    unfold Ch.aheads
    rw [List.getElem?_map, List.getElem?_range hi, ← hB i hi]
    rfl
  · cases hq
    rw [full_at (by omega) hk, if_pos (by omega), List.getD_eq_getElem?_getD, List.getElem?_append_right (by rw [aheads_length]; exact Nat.le_refl _), aheads_length, Nat.sub_self]
    rfl
  · rw [full_at (by omega) h2, if_neg (by omega)]
theorem full_mend {S : Ch} {b k : Nat} {B : Bk} {p : List UInt8} (hk : k < 8) (hB : ∀ i, i < k → pageOf S.bs b i = B.pg.getD i []) {i : Nat} (hi : i < k) : (fullB (S.aheads b k ++ [p])).pg.getD i [] = mendP (B.pg.getD i []) := by
  have hl : (S.aheads b k ++ [p]).length = k + 1 := by rw [List.length_append, aheads_length]; rfl
  rw [full_at (by omega) (by omega), if_pos (by omega), List.getD_eq_getElem?_getD, List.getElem?_append_left (by rw [aheads_length]; exact hi)]
  unfold Ch.aheads
  rw [List.getElem?_map, List.getElem?_range hi, ← hB i hi]
  rfl
theorem mendP_length {p : List UInt8} (h : p.length = 258) : (mendP p).length = 258 := by
  unfold mendP
  split
  · unfold FM.writeM
    split
    · exact List.length_replicate
    · rename_i h2
      exact FM.page_length _ _ (by omega)
  · exact h
end Go.Proofs.YtdiocjneakfdgaaGreatDoor

/- What Program and Erase of a disk leave, though acts fail and the power may end: plain facts. -/
namespace Go.Proofs.YtdiocjneakfdgaaGreatDoor
open Go.RowKit
theorem DS.at_here {X : DS} {N b : Nat} (hsz : X.l.n = N) (hb : b < N - 6) : X.at_ (b : Int) = ((X.l.at_.getD b 0 : Nat) : Int) := by
  unfold DS.at_
  rw [if_pos (by rw [hsz]; omega), Int.toNat_natCast]
theorem fullB_nil : fullB [] = Bk.blank := rfl
section
variable {X : DS} {N f e K b : Nat}
/-- the chip's block of a logical one is changed, and nothing else -/
theorem moved_set (h : DOk X N f e K) (hb : b < N - 6) {S' : Ch} {B : Bk} (hbs : S'.bs = X.S.bs.set (X.l.at_.getD b 0) B) (s : NM.Pwr) (u : Bool) : Moved X ⟨S', s, X.l, u⟩ N b B := by
  have hsz := h.sz
  obtain ⟨_, h2, hn, _⟩ := h.good.here (x := b) (by omega)
  have hbk := bk_set (S := X.S) (by rw [h.fine.len]; omega) hbs
  refine ⟨?_, fun y hy hyb => ?_⟩
  · show S'.bk _ = _
    rw [hbk, if_pos rfl]
  · show S'.bk _ = X.S.bk _
    rw [hbk, if_neg (h.good.apart (by omega) (by omega) hyb)]
theorem tabs_set (h : DOk X N f e K) (hb : b < N - 6) {S' : Ch} {B : Bk} (hbs : S'.bs = X.S.bs.set (X.l.at_.getD b 0) B) : Tabs S' N X.l K := by
  have hsz := h.sz
  obtain ⟨_, h2, hn, _⟩ := h.good.here (x := b) (by omega)
  have hbk := bk_set (S := X.S) (by rw [h.fine.len]; omega) hbs
  exact h.tab.same (fun c hc => by rw [hbk, if_neg (by omega)])
theorem program_spec (h : DOk X N f e K) (ho : X.s.off = false) (hu : X.u = false) (hb : b < N - 6) {k : Nat} (hk : k < 8) (hn : (X.blk b).nx = k) (hkf : (X.blk b).pg.getD k [] = NM.ff) {p : List UInt8} (hd : p.length = 258) (hK : K < 900000) (hpl : ∀ c ∈ X.S.bs, c.ok) :
    ∃ Y r f' e', X.program (b : Int) (k : Int) p = (Y, r) ∧ f' ≤ f ∧ e' ≤ e ∧
      ((r = 0 ∧ Pn X.s Y.s ∧ Y.u = false ∧ DOk Y N f' e' (K + 5) ∧ Y.l.losses + f' + e' ≤ X.l.losses + f + e ∧ (∃ B, Fits (X.blk b) B k (some p) ∧ Moved X Y N b B) ∧ (X.S.fp (X.S.dp : Int) = true → X.l.losses < Y.l.losses ∧ ∀ i, i < k → (Y.blk b).pg.getD i [] = mendP ((X.blk b).pg.getD i [])) ∧ (X.S.fp (X.S.dp : Int) = false → Y.l = X.l ∧ Y.S.fp = X.S.fp ∧ Y.S.dp = X.S.dp + 1 ∧ f' = f ∧ e' = e)) ∨
       (r = 30 ∧ Pc X.s Y.s ∧ ∃ l2, DOk ⟨Y.S, Y.s, l2, false⟩ N f' e' (K + 5) ∧ l2.losses + f' + e' ≤ X.l.losses + f + e ∧ ∃ B, Fits (X.blk b) B k none ∧ Moved X ⟨Y.S, Y.s, l2, false⟩ N b B)) := by
  have hsz := h.sz
  have hn2 := h.n2
  have hat := DS.at_here hsz hb
  obtain ⟨_, h2, hnn, _⟩ := h.good.here (x := b) (by omega)
  rw [hsz] at hnn
  obtain ⟨A, hA⟩ : ∃ A, A = X.l.at_.getD b 0 := ⟨_, rfl⟩
  have hblk : X.blk b = X.S.bk A := by rw [hA]; rfl
  have hset := fun {S' : Ch} {B : Bk} (q : S'.bs = X.S.bs.set A B) => moved_set h hb (S' := S') (B := B) (hA ▸ q)
  have htab := fun {S' : Ch} {B : Bk} (q : S'.bs = X.S.bs.set A B) => tabs_set h hb (S' := S') (B := B) (hA ▸ q)
  rw [← hA] at hat hnn h2
  rw [hblk] at hn hkf ⊢
  have hpg : ∀ i, i < 8 → ((X.S.bk A).pg.getD i []).length = 258 := fun i hi => by
    have hl := h.fine.len
    have hm : X.S.bk A ∈ X.S.bs := by
      unfold Ch.bk
      rw [List.getD_eq_getElem?_getD, List.getElem?_eq_getElem (by omega)]
      exact List.getElem_mem _
    exact Bk.page_length (hpl _ hm) hi
  have hp8 := h.fine.oks A hnn
  obtain ⟨S1, s1, r, n, f1, hE, hF, hbs, hfp, hdp, hc⟩ := h.fine.prog ho hnn hk hn p
  have hroom := h.room
  unfold DS.program
  rw [hat, hE]
  simp only
  rw [Int.toNat_natCast, Int.toNat_natCast]
  have hg : ∀ i, ((X.S.bk A).pg.set k (NM.wr n ((X.S.bk A).pg.getD k []) p)).getD i [] = if i = k then NM.wr n ((X.S.bk A).pg.getD k []) p else (X.S.bk A).pg.getD i [] := fun i => getD_setP (by omega) _
  have hfit : ∀ o, (∀ q, o = some q → NM.wr n ((X.S.bk A).pg.getD k []) p = q) → Fits (X.S.bk A) ⟨(X.S.bk A).pg.set k (NM.wr n ((X.S.bk A).pg.getD k []) p), k + 1, false⟩ k o := fun o hq =>
    ⟨rfl, fun i hi => .inl (by rw [hg, if_neg (by omega)]), fun q e => by rw [hg, if_pos rfl]; exact hq q e, fun i h1 _ hf => by rw [hg, if_neg (by omega)]; exact hf⟩
  rcases hc with ⟨rfl, rfl, hpn, rfl, hfalse⟩ | ⟨rfl, rfl, hpn, hf1, htrue⟩ | ⟨rfl, hnn2, hpc, rfl⟩
  · rw [if_pos (by decide)]
    exact ⟨_, _, _, e, rfl, Nat.le_refl _, Nat.le_refl _, .inl ⟨rfl, hpn, hu, ⟨hF, hsz, hn2, h.good, (htab hbs).more (by omega), hroom⟩, Nat.le_refl _, ⟨_, hfit (some p) (fun q e => by rw [hkf, wr_all hd]; exact Option.some.inj e), hset hbs _ _⟩, fun q => (by rw [hfalse] at q; cases q), fun _ => ⟨rfl, hfp, hdp, rfl, rfl⟩⟩⟩
  · rw [if_neg (by decide)]
    have hX1 : DOk ⟨S1, s1, X.l, X.u⟩ N f1 e K := ⟨hF, hsz, hn2, h.good, htab hbs, by show X.l.losses + f1 + e ≤ 4; omega⟩
    have hl9 : (S1.aheads A k ++ [p]).length = k + 1 := by rw [List.length_append, aheads_length]; rfl
    have hself : S1.bk A = ⟨(X.S.bk A).pg.set k (NM.wr 129 ((X.S.bk A).pg.getD k []) p), k + 1, false⟩ := by
      rw [bk_set (S := X.S) (by rw [h.fine.len]; exact hnn) hbs, if_pos rfl]
    have hpg1 : ∀ i, i < k → pageOf S1.bs A i = (X.S.bk A).pg.getD i [] := fun i hi => by
      rw [page_bk, hself]
      show ((X.S.bk A).pg.set k _).getD i [] = _
      rw [hg, if_neg (by omega)]
    obtain ⟨Y, r, f2, e2, w, lf, le, c⟩ := move_spec (x := b) (ps := S1.aheads A k ++ [p]) hb (by omega) (fun q hq => by
      rcases List.mem_append.1 hq with hq | hq
      · unfold Ch.aheads at hq
        obtain ⟨i, hi, rfl⟩ := List.mem_map.1 hq
        have hi' := List.mem_range.1 hi
        exact mendP_length (by rw [hpg1 i hi']; exact hpg i (by omega))
      · rw [List.mem_singleton.1 hq]; exact hd) (5 - X.l.losses) ⟨S1, s1, X.l, X.u⟩ f1 e K hX1 hpn.1 hu (by show X.l.losses + f1 + e ≤ 3; omega) (by omega) (by omega)
    have hM1 := hset hbs s1 X.u
    have hff := fits_full (S := S1) (b := A) (B := X.S.bk A) (p := p) hk hpg1
    have hmm : ∀ Z : DS, Moved ⟨S1, s1, X.l, X.u⟩ Z N b (fullB (S1.aheads A k ++ [p])) → Moved X Z N b (fullB (S1.aheads A k ++ [p])) := fun Z hZ => ⟨hZ.1, fun y hy hyb => (hZ.2 y hy hyb).trans (hM1.2 y hy hyb)⟩
    refine ⟨Y, r, f2, e2, w, by omega, by omega, ?_⟩
    have hll : (DS.mk S1 s1 X.l X.u).l.losses = X.l.losses := rfl
    rcases c with ⟨z1, z2, z3, z4, z5, z6, z7⟩ | ⟨z1, z2, l3, z4, z5, z6⟩
    · refine .inl ⟨z1, hpn.trans z2, z3, z4.more (by omega), by omega, ⟨_, hff, hmm Y z7⟩, fun _ => ⟨by omega, fun i hi => ?_⟩, fun q => ?_⟩
      · rw [(hmm Y z7).1]
        exact full_mend hk hpg1 hi
      · rw [htrue] at q; cases q
    · refine .inr ⟨z1, hpn.cut z2, l3, z4.more (by omega), by omega, ?_⟩
      rcases z6 with z6 | z6
      · exact ⟨_, hfit none (fun q e => by cases e), (z6 b hb).trans hM1.1, fun y hy hyb => (z6 y hy).trans (hM1.2 y hy hyb)⟩
      · exact ⟨_, ⟨hff.1, hff.2.1, (fun q e => by cases e), hff.2.2.2⟩, hmm _ z6⟩
  · rw [if_pos (by decide)]
    exact ⟨_, _, _, e, rfl, Nat.le_refl _, Nat.le_refl _, .inr ⟨rfl, hpc, X.l, ⟨hF, hsz, hn2, h.good, (htab hbs).more (by omega), hroom⟩, Nat.le_refl _, _, hfit none (fun q e => by cases e), hset hbs _ _⟩⟩
theorem erase_spec (h : DOk X N f e K) (ho : X.s.off = false) (hu : X.u = false) (hb : b < N - 6) (hK : K < 900000) :
    ∃ Y r f' e', X.erase (b : Int) = (Y, r) ∧ f' ≤ f ∧ e' ≤ e ∧
      ((r = 0 ∧ Pn X.s Y.s ∧ Y.u = false ∧ DOk Y N f' e' (K + 5) ∧ Y.l.losses + f' + e' ≤ X.l.losses + f + e ∧ Moved X Y N b Bk.blank) ∨
       (r = 30 ∧ Pc X.s Y.s ∧ ∃ l2, DOk ⟨Y.S, Y.s, l2, false⟩ N f' e' (K + 5) ∧ l2.losses + f' + e' ≤ X.l.losses + f + e ∧ ∃ B, (∀ i, i < 8 → B.pg.getD i [] = (X.blk b).pg.getD i [] ∨ B.pg.getD i [] = NM.ff) ∧ Moved X ⟨Y.S, Y.s, l2, false⟩ N b B)) := by
  have hsz := h.sz
  have hn2 := h.n2
  have hat := DS.at_here hsz hb
  obtain ⟨_, h2, hnn, _⟩ := h.good.here (x := b) (by omega)
  rw [hsz] at hnn
  obtain ⟨A, hA⟩ : ∃ A, A = X.l.at_.getD b 0 := ⟨_, rfl⟩
  have hblk : X.blk b = X.S.bk A := by rw [hA]; rfl
  have hset := fun {S' : Ch} {B : Bk} (q : S'.bs = X.S.bs.set A B) => moved_set h hb (S' := S') (B := B) (hA ▸ q)
  have htab := fun {S' : Ch} {B : Bk} (q : S'.bs = X.S.bs.set A B) => tabs_set h hb (S' := S') (B := B) (hA ▸ q)
  rw [← hA] at hat hnn h2
  rw [hblk]
  have hp8 := h.fine.oks A hnn
  obtain ⟨S1, s1, r, n, nx, e1, hE, hF, hbs, hc⟩ := h.fine.erase ho hnn
  have hroom := h.room
  have hw : ∀ m, m ≤ 8 → ∀ i, (wipP m (X.S.bk A).pg).getD i [] = if i < m then NM.ff else (X.S.bk A).pg.getD i [] := fun m hm i => wipP_page hp8 hm
  unfold DS.erase
  rw [hat, hE]
  simp only
  rcases hc with ⟨rfl, rfl, rfl, hpn, rfl⟩ | ⟨rfl, rfl, rfl, hpn, he1⟩ | ⟨rfl, hn8, rfl, hpc, rfl⟩
  · rw [if_pos (by decide)]
    rw [wipP_all hp8] at hbs
    exact ⟨_, _, f, _, rfl, Nat.le_refl _, Nat.le_refl _, .inl ⟨rfl, hpn, hu, ⟨hF, hsz, hn2, h.good, (htab hbs).more (by omega), hroom⟩, Nat.le_refl _, hset hbs _ _⟩⟩
  · rw [if_neg (by decide)]
    have hX1 : DOk ⟨S1, s1, X.l, X.u⟩ N f e1 K := ⟨hF, hsz, hn2, h.good, htab hbs, by show X.l.losses + f + e1 ≤ 4; omega⟩
    obtain ⟨Y, r, f2, e2, w, lf, le, c⟩ := move_spec (x := b) (ps := []) hb (by simp) (fun q hq => by cases hq) (5 - X.l.losses) ⟨S1, s1, X.l, X.u⟩ f e1 K hX1 hpn.1 hu (by show X.l.losses + f + e1 ≤ 3; omega) (by omega) (by omega)
    have hM1 := hset hbs s1 X.u
    have hmm : ∀ Z : DS, Moved ⟨S1, s1, X.l, X.u⟩ Z N b Bk.blank → Moved X Z N b Bk.blank := fun Z hZ => ⟨hZ.1, fun y hy hyb => (hZ.2 y hy hyb).trans (hM1.2 y hy hyb)⟩
    rw [fullB_nil] at c
    refine ⟨Y, r, f2, e2, w, by omega, by omega, ?_⟩
    have hll : (DS.mk S1 s1 X.l X.u).l.losses = X.l.losses := rfl
    rcases c with ⟨z1, z2, z3, z4, z5, z6, z7⟩ | ⟨z1, z2, l3, z4, z5, z6⟩
    · exact .inl ⟨z1, hpn.trans z2, z3, z4.more (by omega), by omega, hmm Y z7⟩
    · refine .inr ⟨z1, hpn.cut z2, l3, z4.more (by omega), by omega, ?_⟩
      rcases z6 with z6 | z6
      · exact ⟨_, fun i hi => .inl (by show (wipP 0 (X.S.bk A).pg).getD i [] = _; rw [hw 0 (by omega), if_neg (by omega)]), (z6 b hb).trans hM1.1, fun y hy hyb => (z6 y hy).trans (hM1.2 y hy hyb)⟩
      · exact ⟨_, fun i hi => .inr (ffs_at hi), hmm _ z6⟩
  · rw [if_pos (by decide)]
    refine ⟨_, _, f, _, rfl, Nat.le_refl _, Nat.le_refl _, .inr ⟨rfl, hpc, X.l, ⟨hF, hsz, hn2, h.good, (htab hbs).more (by omega), hroom⟩, Nat.le_refl _, _, fun i hi => ?_, hset hbs _ _⟩⟩
    show (wipP n (X.S.bk A).pg).getD i [] = _ ∨ (wipP n (X.S.bk A).pg).getD i [] = _
    rw [hw n hn8]
    split
    · exact .inr rfl
    · exact .inl rfl
end
end Go.Proofs.YtdiocjneakfdgaaGreatDoor


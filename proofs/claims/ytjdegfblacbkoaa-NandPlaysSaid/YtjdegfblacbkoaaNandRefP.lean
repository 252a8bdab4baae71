/- The contract of the reference's Program. Condition: the chip and its power are there; few acts so far. -/
import Derived.Test.YtjdegfblacbkoaaNandRefC
import Derived.Test.YtjdegfblacbkoaaPageEq
import Derived.Test.YtjdegfblacbkoaaYields
import Derived.BigQuiet
import Derived.Deep.QuietTactic
namespace Go.Proofs.Ytjdegfblacbkoaa
open Go.RowKit
theorem rpow_flat (w : World) : (isAgg 28).run Try.prog w = .ok false w := by kernel_rfl
section
variable {w w' : World} {r : RAt} {S : Ch}
theorem RChip.rcell (h : RChip w r S) : w.cell? ⟨r.c, 0, none⟩ = some (.pointer (some ⟨r.p, 0, none⟩)) ∧ w.cell? ⟨r.c, 2, none⟩ = some (.slice (some ⟨r.n, 0, none⟩) S.bs.length S.bs.length) ∧ w.cell? ⟨r.c, 3, none⟩ = some (.slice (some ⟨r.b, 0, none⟩) S.bs.length S.bs.length) ∧ w.cell? ⟨r.c, 8, none⟩ = some (.int .i64 (S.dp : Int)) ∧ w.cell? ⟨r.c, 9, none⟩ = some (.int .i64 (S.de : Int)) ∧ w.cell? ⟨r.c, 10, none⟩ = some (.int .i64 (S.cnt : Int)) := by
  obtain ⟨vp, ve, fp, fe, h1, _⟩ := h.cells
  exact ⟨h1.cell 0, h1.cell 2, h1.cell 3, h1.cell 8, h1.cell 9, h1.cell 10⟩
theorem RChip.free (h : RChip w r S) (k : Nat) : w.frozen? ⟨r.c, k, none⟩ = false ∧ w.frozen? ⟨r.n, k, none⟩ = false := by
  obtain ⟨vp, ve, fp, fe, h1, _⟩ := h.cells
  exact ⟨h1.free k, h.nx.free k⟩
theorem RChip.nextc (h : RChip w r S) {b : Nat} (hb : b < S.bs.length) : w.cell? ⟨r.n, b, none⟩ = some (.int .i64 (S.nextOf b : Int)) := by
  rw [h.nx.cell, List.getElem?_map, List.getElem?_eq_getElem hb]
  unfold Ch.nextOf
  rw [getBk hb]
  rfl
theorem RChip.badc (h : RChip w r S) {b : Nat} (hb : b < S.bs.length) : w.cell? ⟨r.b, b, none⟩ = some (.bool (S.bs.getD b ⟨[], 0, false⟩).bad) := by
  rw [h.bd.cell, List.getElem?_map, List.getElem?_eq_getElem hb, getBk hb]
  rfl
theorem RChip.fits (h : RChip w r S) {b : Nat} (hb : b < S.bs.length) : S.nextOf b ≤ 8 := by
  unfold Ch.nextOf
  rw [getBk hb]
  exact (h.ok _ (List.getElem_mem hb)).2.2
/-- a cell of the chip's own is set -/
theorem RChip.setc (h : RChip w r S) {S' : Ch} (hbs : S'.bs = S.bs) (hfp : S'.fp = S.fp) (hfe : S'.fe = S.fe) (k : Nat) (v : Value) (hr : ∀ vp ve, (S.rcells r vp ve).set k v = S'.rcells r vp ve) : RChip (w.setCell ⟨r.c, k, none⟩ v) r S' ∧ w.grownBy (w.setCell ⟨r.c, k, none⟩ v) (some r.c) := by
  have hg : w.grownBy (w.setCell ⟨r.c, k, none⟩ v) (some r.c) := ⟨rfl, rfl, rfl, by simp, fun i _ hi => Below.heap_setCell w _ _ i (by simpa using hi)⟩
  exact ⟨h.own_cells hbs hfp hfe hg (fun vp ve hB => by rw [← hr]; exact hB.set k v), hg⟩
theorem RChip.setn (h : RChip w r S) {b n : Nat} (hb : b < S.bs.length) (hn : n ≤ 8) : RChip (w.setCell ⟨r.n, b, none⟩ (.int .i64 (n : Int))) r (S.setNext b n) ∧ w.grownBy (w.setCell ⟨r.n, b, none⟩ (.int .i64 (n : Int))) (some r.n) := by
  have hg : w.grownBy (w.setCell ⟨r.n, b, none⟩ (.int .i64 (n : Int))) (some r.n) := ⟨rfl, rfl, rfl, by simp, fun i _ hi => Below.heap_setCell w _ _ i (by simpa using hi)⟩
  exact ⟨h.next hb hn hg (h.nx.set b _), hg⟩
theorem RChip.may (h : RChip w r S) {s : NM.Pwr} (hp : RPow w r.p s) (b k : Int) : Calls Try.prog 40 #[.pointer (some ⟨r.c, 0, none⟩), .int .i64 b, .int .i64 k] w fun e w' => e = .returned (.int .i64 (NM.may s.off S.live S.bs.length b k)) ∧ w = w' := by
  obtain ⟨vp, ve, fp, fe, h1, _⟩ := h.cells
  have k1 := refMay_any r.c r.p _ S.dead S.out _ S.bs.length s rfl rfl rfl rfl b k w h1 hp
  have : (!S.dead && !S.out) = S.live := by unfold Ch.live; cases S.dead <;> cases S.out <;> rfl
  rw [this] at k1
  exact k1
theorem RChip.write (h : RChip w r S) {b k : Nat} (hb : b < S.bs.length) (hk : k < 8) (n : Int) (m : Nat) (hm : m = (min (max n 0) 258).toNat) {d : List UInt8} (hd : d.length = 258) {z : Int} (hz : z = ((8 * b + k : Nat) : Int)) :
    Calls Try.prog 50 #[.pointer (some ⟨r.c, 0, none⟩), .int .i64 z, .int .i64 n, .agg (cl d)] w fun e w' => e = .returned (.tuple #[]) ∧ RChip w' r { S with bs := putPage S.bs b k (NM.wr m (pageOf S.bs b k) d) } ∧ Chg w w' (fun j => j = r.g) := by
  subst hz
  have h' := h
  obtain ⟨vp, ve, fp, fe, h1, _⟩ := h.cells
  have hl := pgsOf_length h.ok
  have hq : 8 * b + k < (pgsOf S.bs).length := by omega
  have hlen := h.len
  have k1 := refWrite1 r.c r.g _ (pgsOf S.bs) (8 * S.bs.length) hl (by omega) rfl h.apart.1 (8 * b + k) hq (pgsOf_all h.ok) n d hd w h1 h.pgs
  have e1 : (pgsOf S.bs)[8 * b + k] = pageOf S.bs b k := by
    have := pgsOf_get h.ok hb hk
    rw [List.getElem?_eq_getElem hq] at this
    exact Option.some.inj this
  rw [e1, wr_clip (pageOf_length h.ok hb hk), ← hm, ← pgsOf_put h.ok hb hk] at k1
  refine k1.mono (fun e w' hh => ⟨hh.1, h'.pages (putPage_length _) ?_ ?_ ?_ hh.2.2 hh.2.1, Chg.of_grown hh.2.2 (fun k e => Option.some.inj e)⟩)
  · unfold putPage
    rw [getBk hb, List.map_set]
    have : (Bk.setPage S.bs[b] k (NM.wr m (pageOf S.bs b k) d)).nx = (S.bs.map (·.nx))[b]'(by simpa using hb) := by simp [Bk.setPage]
    rw [this, List.set_getElem_self]
  · unfold putPage
    rw [getBk hb, List.map_set]
    have : (Bk.setPage S.bs[b] k (NM.wr m (pageOf S.bs b k) d)).bad = (S.bs.map (·.bad))[b]'(by simpa using hb) := by simp [Bk.setPage]
    rw [this, List.set_getElem_self]
  · intro x hx
    unfold putPage at hx
    rcases List.mem_or_eq_of_mem_set hx with hx | hx
    · exact h'.ok x hx
    · rw [hx, getBk hb]
      exact Bk.setPage_ok (h'.ok _ (List.getElem_mem hb)) k (by rw [NM.wr_length, pageOf_length h'.ok hb hk])
end
set_option maxRecDepth 100000 in
set_option maxHeartbeats 4000000 in
theorem refProgram_any (r : RAt) (S : Ch) (s : NM.Pwr) (b k : Int) (d : List UInt8) (hd : d.length = 258) (hfit : s.fits) (hsm : S.few 1000000) (w : World) (h : RChip w r S) (hp : RPow w r.p s) (hx : ∀ k, (r.xp = some k ∨ r.xe = some k) → k < w.heap.size) :
    Calls Try.prog 38 #[.pointer (some ⟨r.c, 0, none⟩), .int .i64 b, .int .i64 k, .agg (cl d)] w fun e w' =>
      e = .returned (.int .i64 (S.program b k d s).2.2) ∧ RChip w' r (S.program b k d s).1 ∧ RPow w' r.p (S.program b k d s).2.1 ∧ Chg w w' (fun j => r.own j ∨ j = r.p) := by
  have hb0 : Below w.heap.size w (w.alloc (.cells (cl d) 55)) := (Below.refl _ _).alloc (Nat.le_refl _) _
  have hown := h.own_lt hx
  have hpl := hp.lt
  have C0 := Lib.hid (h.after hb0)
  have P0 := Lib.hid (hp.after hb0)
  have k1 := C0.out.may P0.out b k
  have D0 := Lib.hid (PArr.new w hd)
  obtain ⟨e, he⟩ : ∃ e, e = NM.may s.off S.live S.bs.length b k := ⟨_, rfl⟩
  have HE := Lib.hid he
  rw [← he] at k1
  have G0 : Hid (Chg w (w.alloc (.cells (cl d) 55)) (fun j => r.own j ∨ j = r.p)) := Lib.hid (Chg.of_below hb0)
  have hsz : w.heap.size < (w.alloc (.cells (cl d) 55)).heap.size := by simp
  clear h hp hb0
  by_cases h0 : e = 0
  · subst h0
    obtain ⟨ho, hlv, q1, q2, q3, q4⟩ := may_zero he.symm
    obtain ⟨b', rfl⟩ : ∃ b' : Nat, b = (b' : Int) := ⟨b.toNat, by omega⟩
    obtain ⟨k', rfl⟩ : ∃ k' : Nat, k = (k' : Int) := ⟨k.toNat, by omega⟩
    have hb : b' < S.bs.length := by omega
    have hk8 : k' < 8 := by omega
    obtain ⟨c0, c2, c3, c8, c9, c10⟩ := C0.out.rcell
    have cn := C0.out.nextc hb
    have hlen := C0.out.len
    have hnx8 := C0.out.fits hb
    obtain ⟨a1, a2, a3, a4, a5, a6⟩ := C0.out.apart
    have n1 : (r.n = r.c) = False := by simp; exact fun e => a2 e.symm
    have n2 : (r.c = r.n) = False := by simp; exact a2
    have n3 : (r.n == r.c) = false := by simp; exact fun e => a2 e.symm
    have n4 : (r.c == r.n) = false := by simp; exact a2
    obtain ⟨nx, hnx⟩ : ∃ nx, nx = S.nextOf b' := ⟨_, rfl⟩
    rw [← hnx] at cn hnx8
    have HNX := Lib.hid hnx
    obtain ⟨sm1, sm2, sm3⟩ := hsm
    clear hnx he
    by_cases hkn : k' = nx
    · subst hkn
      have d2 : ((k' : Int) != (k' : Int)) = false := by simp
      have ww1 : IntKind.i64.wrap ((S.cnt : Int) + 1) = (S.cnt : Int) + 1 := by rw [IntKind.wrap_i64]; omega
      have ww2 : IntKind.i64.wrap ((k' : Int) + 1) = (k' : Int) + 1 := by rw [IntKind.wrap_i64]; omega
      have f10 := (C0.out.free 10).1
      have fn := (C0.out.free b').2
      obtain ⟨C1, g1⟩ := C0.out.setc (S' := { S with cnt := S.cnt + 1 }) rfl rfl rfl 10 (.int .i64 ((S.cnt : Int) + 1)) (fun _ _ => rfl)
      obtain ⟨C2, g2⟩ := C1.setn (b := b') (n := k' + 1) hb (by omega)
      have HC2 := Lib.hid C2
      have q2' : Hid (Chg (w.alloc (.cells (cl d) 55)) ((((w.alloc (.cells (cl d) 55))).setCell ⟨r.c, 10, none⟩ (.int .i64 ((S.cnt : Int) + 1))).setCell ⟨r.n, b', none⟩ (.int .i64 ((k' + 1 : Nat) : Int))) (fun j => r.own j)) := Lib.hid (((Chg.of_grown (S := fun j => j = r.c) g1 (fun k e => Option.some.inj e)).more (fun _ _ e => .inl e)).trans ((Chg.of_grown (S := fun j => j = r.n) g2 (fun k e => Option.some.inj e)).more (fun _ _ e => .inr (.inr (.inl e)))))
      have ecast : (((k' + 1 : Nat) : Int)) = (k' : Int) + 1 := rfl
      rw [ecast] at HC2 q2'
      clear C1 C2 g1 g2 ecast hnx8
      go_enter Try.func38, Try.ntmps38
      go_wp2_with ((with_reducible refine k1.mono ?_); rintro e w' ⟨rfl, rfl⟩)
      have HG2 : Hid (Chg w ((((w.alloc (.cells (cl d) 55))).setCell ⟨r.c, 10, none⟩ (.int .i64 ((S.cnt : Int) + 1))).setCell ⟨r.n, b', none⟩ (.int .i64 ((k' : Int) + 1))) (fun j => r.own j ∨ j = r.p)) := Lib.hid (G0.out.trans (q2'.out.more (fun _ _ h => .inl h)))
      have HP2 := Lib.hid (P0.out.chg q2'.out C0.out.pn)
      have nown : ¬ r.own w.heap.size := fun h => Nat.lt_irrefl _ (hown _ h)
      have HD2 := Lib.hid (D0.out.chg q2'.out nown)
      obtain ⟨W2, hW2⟩ : ∃ W2, W2 = ((((w.alloc (.cells (cl d) 55))).setCell ⟨r.c, 10, none⟩ (.int .i64 ((S.cnt : Int) + 1))).setCell ⟨r.n, b', none⟩ (.int .i64 ((k' : Int) + 1))) := ⟨_, rfl⟩
      rw [← hW2] at HC2 HG2 HP2 HD2 ⊢
      clear q2' hW2 C0 P0 D0 G0 k1 c0 c2 c3 c8 c9 c10 cn f10 fn hsz
      obtain ⟨S2, hS2⟩ : ∃ S2, S2 = ({ S with cnt := S.cnt + 1 } : Ch).setNext b' (k' + 1) := ⟨_, rfl⟩
      rw [← hS2] at HC2
      have l2 : S2.bs.length = S.bs.length := by rw [hS2]; simp [Ch.setNext]
      have hb2 : b' < S2.bs.length := by rw [l2]; exact hb
      have e2 : S2.dp = S.dp := by rw [hS2]; rfl
      obtain ⟨c0, c2, c3, c8, c9, c10⟩ := HC2.out.rcell
      rw [l2] at c2 c3
      rw [e2] at c8
      obtain ⟨vp, ve, fp, fe, B2, rp, re, hfp, hfe⟩ := HC2.out.cells
      have c6 : W2.cell? ⟨r.c, 6, none⟩ = some vp := B2.cell 6
      have cb := HC2.out.badc hb2
      obtain ⟨bd, hbd⟩ : ∃ bd, bd = (S2.bs.getD b' ⟨[], 0, false⟩).bad := ⟨_, rfl⟩
      rw [← hbd] at cb
      have ki : ∀ k, Calls Try.prog 47 #[vp, .int .i64 (S.dp : Int)] (W2.drewN k) fun e w' => e = .returned (.bool (S2.fp S2.dp)) ∧ w' = W2.drewN k := fun k => by
        rw [hfp, e2]
        exact (refIn_any vp fp S.dp (W2.drewN k) W2.heap.size rp.nums).mono (fun _ _ h => ⟨h.1, h.2.symm⟩)
      have HS2 := Lib.hid hS2
      have HBD := Lib.hid hbd
      obtain ⟨fl, hfl⟩ : ∃ fl, fl = S2.fp S2.dp := ⟨_, rfl⟩
      rw [← hfl] at ki
      have HFL := Lib.hid hfl
      have ww3 : IntKind.i64.wrap ((S.dp : Int) + 1) = (S.dp : Int) + 1 := by rw [IntKind.wrap_i64]; omega
      have ww4 : IntKind.i64.wrap (8 * (b' : Int)) = 8 * (b' : Int) := by rw [IntKind.wrap_i64]; omega
      have ww5 : IntKind.i64.wrap (8 * (b' : Int) + (k' : Int)) = 8 * (b' : Int) + (k' : Int) := by rw [IntKind.wrap_i64]; omega
      clear hS2 hbd hfl B2 rp re hfp hfe c2 n1 n2 n3 n4
      have hb3 : b' < ({ S2 with dp := S2.dp + 1 } : Ch).bs.length := hb2
      have hfin : Hid (∀ m z, actN s.act.2 fl bd s.keep 258 129 = (m, z) → S.program (b' : Int) (k' : Int) d s = ({ ({ S2 with dp := S2.dp + 1 } : Ch) with bs := putPage ({ S2 with dp := S2.dp + 1 } : Ch).bs b' k' (NM.wr m (pageOf ({ S2 with dp := S2.dp + 1 } : Ch).bs b' k') d) }, s.act.1, z)) := Lib.hid (fun m z hmz => by
        unfold Ch.program
        rw [← HE.out, if_neg (fun h => h rfl), show ((b' : Int)).toNat = b' by omega, show ((k' : Int)).toNat = k' by omega, ← HNX.out, if_neg (fun h => h rfl)]
        have a1 : ((S.setNext b' (k' + 1)).actP b' k' d s) = ({ ({ S2 with dp := S2.dp + 1 } : Ch) with bs := putPage ({ S2 with dp := S2.dp + 1 } : Ch).bs b' k' (NM.wr m (pageOf ({ S2 with dp := S2.dp + 1 } : Ch).bs b' k') d) }, z) := by
          have m1 := congrArg (·.1) hmz
          have m2 := congrArg (·.2) hmz
          simp only at m1 m2
          unfold Ch.actP
          rw [← m1, ← m2, HFL.out, HBD.out, HS2.out]
          rfl
        rw [a1])
      have hbits : Hid (b' < S2.bs.length ∧ k' < 8) := Lib.hid ⟨hb2, hk8⟩
      cases fl <;> cases bd
      all_goals
        go_quiet ((go_at_call 47; exact Calls.quiet_of_same (ki _)))
        have b9 : Below W2.heap.size W2 (W2.drewN nq) := ⟨rfl, rfl, rfl, Nat.le_refl _, fun _ _ => rfl⟩
        have C3 := HC2.out.after b9
        have P3 := HP2.out.after b9
        have D3 := HD2.out.after b9
        have G3 := Lib.hid (HG2.out.trans (Chg.of_below b9))
        obtain ⟨W3, hW3⟩ : ∃ W3, W3 = W2.drewN nq := ⟨_, rfl⟩
        rw [← hW3] at C3 P3 D3 G3 ⊢
        obtain ⟨x0, _, _, x8, _, _⟩ := C3.rcell
        rw [e2] at x8
        have fr := (C3.free 8).1
        obtain ⟨C4, g4⟩ := C3.setc (S' := { S2 with dp := S2.dp + 1 }) rfl rfl rfl 8 (.int .i64 ((S.dp : Int) + 1)) (fun _ _ => by rw [← e2]; rfl)
        have q4 : Chg W3 (W3.setCell ⟨r.c, 8, none⟩ (.int .i64 ((S.dp : Int) + 1))) (fun j => j = r.c) := Chg.of_grown g4 (fun k e => Option.some.inj e)
        have P4 := P3.chg q4 (fun e => C3.pn (e ▸ .inl rfl))
        have HD4 := Lib.hid (D3.chg q4 (fun e => nown (e ▸ .inl rfl)))
        have HG4 := Lib.hid (G3.out.trans (q4.more (T := fun j => r.own j ∨ j = r.p) (fun _ _ e => .inl (.inl e))))
        have k4 := refAct_any r.p s hfit _ P4
        have HC4 := Lib.hid C4
        clear P4 C4 q4 g4 C3 P3 D3 G3 b9 hW3 HC2 HP2 HD2 HG2 ki c0 c3 c6 c8 c9 c10 cb
        obtain ⟨en, hen⟩ : ∃ en, en = s.act.2 := ⟨_, rfl⟩
        rw [← hen] at k4
        have HEN := Lib.hid hen
        clear hen
        go_wp2_with fail
        ((with_reducible refine k4.mono ?_); rintro e w5 ⟨rfl, P5', g5⟩)
        have q5 : Chg _ w5 (fun j => j = r.p) := Chg.of_grown g5 (fun k e => Option.some.inj e)
        have HC5 := Lib.hid (HC4.out.chg q5 (fun k hk e => HC4.out.pn (e ▸ hk)))
        have D5 := HD4.out.chg q5 (by omega)
        have HG5 := Lib.hid (HG4.out.trans (q5.more (T := fun j => r.own j ∨ j = r.p) (fun _ _ e => .inr e)))
        have HP5 := Lib.hid P5'
        clear P5' q5 g5 k4 HC4 HD4 HG4 x0 x8 fr
        have HD5 := Lib.hid D5
        cases en
        · clear D5
          go_wp2_with (first | (with_reducible refine wpl_pload (.tmp 7) rfl rfl HD5.out rfl ?_) | ((with_reducible refine (HC5.out.write hb3 hk8 _ 258 rfl hd (by push_cast; rfl)).mono ?_); rintro e w6 ⟨rfl, C6, q6⟩) | ((with_reducible refine (HC5.out.write hb3 hk8 _ 129 rfl hd (by push_cast; rfl)).mono ?_); rintro e w6 ⟨rfl, C6, q6⟩))
          go_ret
          first | rw [hfin.out _ 0 (by unfold actN; rw [if_neg (by rw [← HEN.out]; simp)]; rfl)] | rw [hfin.out _ 33 (by unfold actN; rw [if_neg (by rw [← HEN.out]; simp)]; rfl)]
          exact ⟨rfl, C6, HP5.out.chg q6 (fun e => HC5.out.pn (e ▸ .inr (.inl rfl))), HG5.out.trans (q6.more (fun _ _ e => .inl (.inr (.inl e))))⟩
        · have HS5 : PArr w5 w.heap.size d ∧ w5.cell? ⟨r.c, 0, none⟩ = some (.pointer (some ⟨r.p, 0, none⟩)) ∧ w5.cell? ⟨r.p, 2, none⟩ = some (.int .i64 s.keep) := ⟨D5, HC5.out.rcell.1, by
            have h : w5.cell? ⟨r.p, 2, none⟩ = some (.int .i64 s.act.1.keep) := Blk.cell HP5.out 2
            have : s.act.1.keep = s.keep := by unfold NM.Pwr.act; split <;> rfl
            rw [this] at h
            exact h⟩
          try (go_wp2_with fail)
          · have HC5d := Lib.hid (HC5.out.after (Below.refl _ _).drew)
            have HP5d := Lib.hid (HP5.out.after (Below.refl _ _).drew)
            have HG5d := Lib.hid (HG5.out.trans (Chg.of_below (Below.refl _ _).drew))
            have D5d : PArr w5.drew w.heap.size d := D5.drew
            have HS5d : PArr w5.drew w.heap.size d ∧ w5.drew.cell? ⟨r.c, 0, none⟩ = some (.pointer (some ⟨r.p, 0, none⟩)) ∧ w5.drew.cell? ⟨r.p, 2, none⟩ = some (.int .i64 s.keep) := HS5
            clear HC5 HP5 HG5 D5 HS5
            refine wp_region_held_drew (S := fun w' => PArr w' w.heap.size d ∧ w'.cell? ⟨r.c, 0, none⟩ = some (.pointer (some ⟨r.p, 0, none⟩)) ∧ w'.cell? ⟨r.p, 2, none⟩ = some (.int .i64 s.keep)) (by kernel_rfl) HS5d (fun _ => ?_)
            refine wpAnyH_take (i := 0) (v := .pointer (some ⟨r.c, 0, none⟩)) rfl (by kernel_rfl) (by kernel_rfl) (by kernel_rfl) (fun _ _ _ h => h) (Or.inl ⟨by kernel_rfl, fun w _ => by go_simp⟩) HS5d ?_
            refine wpAnyH_take (i := 1) (v := .int .i64 (8 * (b' : Int) + (k' : Int))) rfl (by kernel_rfl) (by kernel_rfl) (by kernel_rfl) (fun _ _ _ h => h) (Or.inl ⟨by kernel_rfl, fun w _ => by go_simp⟩) HS5d ?_
            refine wpAnyH_take (i := 2) (v := .pointer (some ⟨r.c, 0, none⟩)) rfl (by kernel_rfl) (by kernel_rfl) (by kernel_rfl) (fun _ _ _ h => h) (Or.inl ⟨by kernel_rfl, fun w _ => by go_simp⟩) HS5d ?_
            refine wpAnyH_take (i := 3) (v := .pointer (some ⟨r.c, 0, none⟩)) rfl (by kernel_rfl) (by kernel_rfl) (by kernel_rfl) (fun _ _ _ h => h) (Or.inl ⟨by kernel_rfl, fun w _ => by go_simp⟩) HS5d ?_
            refine wpAnyH_take (i := 4) (v := .pointer (some ⟨r.c, 0, none⟩)) rfl (by kernel_rfl) (by kernel_rfl) (by kernel_rfl) (fun _ _ _ h => h) (Or.inl ⟨by kernel_rfl, fun w _ => by go_simp⟩) HS5d ?_
            refine wpAnyH_take (i := 5) (v := .pointer (some ⟨r.p, 0, none⟩)) rfl (by kernel_rfl) (by kernel_rfl) (by kernel_rfl) (fun _ _ _ h => h) (yields_one (p := ⟨r.c, 0, none⟩) rpow_flat (.tmp 82) (by kernel_rfl) (by kernel_rfl) (by kernel_rfl) (fun _ h => h.2.1)) HS5d ?_
            refine wpAnyH_take (i := 6) (v := .pointer (some ⟨r.p, 0, none⟩)) rfl (by kernel_rfl) (by kernel_rfl) (by kernel_rfl) (fun _ _ _ h => h) (Or.inl ⟨by kernel_rfl, fun w _ => by go_simp⟩) HS5d ?_
            refine wpAnyH_take (i := 7) (v := .pointer (some ⟨r.p, 2, none⟩)) rfl (by kernel_rfl) (by kernel_rfl) (by kernel_rfl) (fun _ _ _ h => h) (Or.inl ⟨by kernel_rfl, fun w _ => by go_simp⟩) HS5d ?_
            refine wpAnyH_take (i := 8) (v := .int .i64 s.keep) rfl (by kernel_rfl) (by kernel_rfl) (by kernel_rfl) (fun _ _ _ h => h) (yields_one (p := ⟨r.p, 2, none⟩) int_flat (.tmp 85) (by kernel_rfl) (by kernel_rfl) (by kernel_rfl) (fun _ h => h.2.2)) HS5d ?_
            refine wpAnyH_take (i := 9) (v := .agg (cl d)) rfl (by kernel_rfl) (by kernel_rfl) (by kernel_rfl) (fun _ _ _ h => h) (yields_pload (g := w.heap.size) (.tmp 7) (by kernel_rfl) (by kernel_rfl) (by kernel_rfl) (fun _ h => h.1)) HS5d ?_
            refine wpAnyH_ready (rs := [10]) (by kernel_rfl) (by simp) (AllReadyH.cons rfl (fun K hK => ?_) AllReadyH.nil)
            go_simp
            ((with_reducible refine (HC5d.out.write hb3 hk8 _ (min (max s.keep 0) 258).toNat rfl hd (by push_cast; rfl)).mono ?_); rintro e w6 ⟨rfl, C6, q6⟩)
            refine hK.out _ _ ⟨D5d.chg q6 (fun e => nown (e ▸ .inr (.inl rfl))), (World.cell?_of_block (q6.block _ (World.block_lt_of_cell? _ _ HS5d.2.1) (fun e => HC5d.out.apart.1 e))).trans HS5d.2.1, (World.cell?_of_block (q6.block _ (World.block_lt_of_cell? _ _ HS5d.2.2) (fun e => HC5d.out.pn (.inr (.inl e))))).trans HS5d.2.2⟩ (fun _ => ?_)
            clear hK K
            refine wpAnyH_done (by kernel_rfl) ?_ _
            go_wp2_with fail
            go_ret
            rw [hfin.out _ 30 (by unfold actN; rw [if_pos HEN.out.symm])]
            exact ⟨rfl, C6, HP5d.out.chg q6 (fun e => HC5d.out.pn (e ▸ .inr (.inl rfl))), HG5d.out.trans (q6.more (fun _ _ e => .inl (.inr (.inl e))))⟩
    · have d2 : ((k' : Int) != (nx : Int)) = true := by simp; omega
      have hre : S.program (b' : Int) (k' : Int) d s = (S, s, 32) := by
        unfold Ch.program
        rw [← HE.out, if_neg (fun h => h rfl), if_pos (by rw [show ((b' : Int)).toNat = b' by omega, ← HNX.out]; omega)]
      have HRE := Lib.hid hre
      clear hre n1 n2 n3 n4
      go_enter Try.func38, Try.ntmps38
      go_wp2_with ((with_reducible refine k1.mono ?_); rintro e w' ⟨rfl, rfl⟩)
      go_ret
      rw [HRE.out]
      exact ⟨rfl, C0.out, P0.out, G0.out⟩
  · have hre : S.program b k d s = (S, s, e) := by
      unfold Ch.program
      rw [← he, if_pos h0]
    have HRE := Lib.hid hre
    have d1 : (e != 0) = true := by simp [h0]
    clear hre he h0
    go_enter Try.func38, Try.ntmps38
    go_wp2_with ((with_reducible refine k1.mono ?_); rintro e w' ⟨rfl, rfl⟩)
    go_ret
    rw [HRE.out]
    exact ⟨rfl, C0.out, P0.out, G0.out⟩
end Go.Proofs.Ytjdegfblacbkoaa

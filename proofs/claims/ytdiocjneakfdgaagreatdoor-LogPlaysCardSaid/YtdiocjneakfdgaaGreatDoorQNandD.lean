/- Several texts of the proof, joined: what each has is said at its head. -/
import Derived.Test.YtdiocjneakfdgaaGreatDoorQNandActE
import Derived.Deep.QuietTactic
import Derived.BigQuiet
/- The contract of the program's Program. Condition: the chip and its power are there; few acts so far. -/
namespace Go.Proofs.YtdiocjneakfdgaaGreatDoor
open Go.RowKit
def Ch.nextOf (S : Ch) (b : Nat) : Nat := (S.bs.getD b ⟨[], 0, false⟩).nx
def Ch.setNext (S : Ch) (b n : Nat) : Ch := { S with bs := S.bs.set b ((S.bs.getD b ⟨[], 0, false⟩).setNext n) }
/-- what a Program does, and answers -/
def Ch.program (S : Ch) (b k : Int) (d : List UInt8) (s : NM.Pwr) : Ch × NM.Pwr × Int :=
  if NM.may s.off S.live S.bs.length b k ≠ 0 then (S, s, NM.may s.off S.live S.bs.length b k)
  else if k ≠ (S.nextOf b.toNat : Int) then (S, s, 32)
  else (((S.setNext b.toNat (k.toNat + 1)).actP b.toNat k.toNat d s).1, s.act.1, ((S.setNext b.toNat (k.toNat + 1)).actP b.toNat k.toNat d s).2)
theorem may_zero {off live : Bool} {M b k : Int} (h : NM.may off live M b k = 0) : off = false ∧ live = true ∧ 0 ≤ b ∧ b < M ∧ 0 ≤ k ∧ k ≤ 7 := by
  unfold NM.may at h
  split at h
  · omega
  · rename_i h1
    split at h
    · rename_i h2
      split at h
      · omega
      · exact ⟨by simpa using h1, h2, by omega, by omega, by omega, by omega⟩
    · omega
theorem BG.setNext' {w : World} {g : Nat} {Bs : List Bk} (h : BG w g Bs) {b : Nat} (hb : b < Bs.length) {n : Nat} (hn : n ≤ 8) : BG (w.setCell ⟨g, b * 2066 + 2064, none⟩ (.int .i64 (n : Int))) g (Bs.set b ((Bs.getD b ⟨[], 0, false⟩).setNext n)) := by
  rw [getBk hb]
  exact h.setNext hb hn
theorem PChip.setNext {w w' : World} {a : At} {S : Ch} (h : PChip w a S) {b n : Nat} (hw : w' = w.setCell ⟨a.g, b * 2066 + 2064, none⟩ (.int .i64 (n : Int))) (hb : b < S.bs.length) (hn : n ≤ 8) : PChip w' a (S.setNext b n) := by
  subst hw
  have hc : Chg w (w.setCell ⟨a.g, b * 2066 + 2064, none⟩ (.int .i64 (n : Int))) (fun j => j = a.g) := Chg.of_grown (r := some a.g) ⟨rfl, rfl, rfl, by simp, fun i _ hi => Below.heap_setCell w _ _ i (by simpa using hi)⟩ (fun k e => Option.some.inj e)
  obtain ⟨⟨vp, ve, h1, h2, h3⟩, hbg, r1, r3, r4, r5, r6, r7, r8⟩ := h
  have hl : (S.setNext b n).bs.length = S.bs.length := by simp [Ch.setNext]
  refine ⟨⟨vp, ve, ?_, h2.chg hc (fun b e => (r6 b e).2.1), h3.chg hc (fun b e => (r7 b e).2.1)⟩, hbg.setNext' hb hn, by rw [hl]; exact r1, r3, r4, r5, r6, r7, r8⟩
  have e := h1.chg hc (fun e => r3 e)
  unfold Ch.cells at e ⊢
  rw [hl]
  exact e
set_option maxRecDepth 100000 in
set_option maxHeartbeats 4000000 in
theorem program_any (a : At) (S : Ch) (s : NM.Pwr) (b k : Int) (d : List UInt8) (hd : d.length = 258) (hfit : s.fits) (hsm : S.few 1000000) (w : World) (h : PChip w a S) (hp : PPow w a.p s) :
    Calls Tryz.prog 107 #[.pointer (some ⟨a.c, 0, none⟩), .int .i64 b, .int .i64 k, .agg (cl d)] w fun e w' =>
      e = .returned (.int .i64 (S.program b k d s).2.2) ∧ PChip w' a (S.program b k d s).1 ∧ PPow w' a.p (S.program b k d s).2.1 ∧ Chg w w' (fun j => a.own j ∨ j = a.p) := by
  have hb0 : Below w.heap.size w ((w.alloc (.cells #[.int .i64 k] 3)).alloc (.cells (cl d) 92)) := ((Below.refl _ _).alloc (Nat.le_refl _) _).alloc (by simp) _
  have hown := h.own_lt
  have hpl := hp.lt
  have C0 := Lib.hid (h.after hb0)
  have P0 := Lib.hid (hp.after hb0)
  have k1 := refuses_any a S s b k _ C0.out P0.out
  have D0 : Hid (PArr ((w.alloc (.cells #[.int .i64 k] 3)).alloc (.cells (cl d) 92)) (w.heap.size + 1) d) := Lib.hid (by
    have := PArr.new (w.alloc (.cells #[.int .i64 k] 3)) hd
    rw [World.size_alloc] at this
    exact this)
  have K0 : Hid (Blk ((w.alloc (.cells #[.int .i64 k] 3)).alloc (.cells (cl d) 92)) w.heap.size 3 [.int .i64 k]) := Lib.hid ((Blk.new w 3 [.int .i64 k]).alloc _)
  have ck := K0.out.cell 0
  simp only [List.getElem?_cons_zero] at ck
  obtain ⟨r, hr⟩ : ∃ r, r = NM.may s.off S.live S.bs.length b k := ⟨_, rfl⟩
  have HR := Lib.hid hr
  rw [← hr] at k1
  have hmf : ∀ (fn : Fn) (first cap : Array Value) (w : World), (Instr.makeFunc fn first cap).run Tryz.prog w = .ok (.func fn first cap) w := fun _ _ _ _ => rfl
  clear h hp
  by_cases h0 : r = 0
  · subst h0
    obtain ⟨ho, hlv, q1, q2, q3, q4⟩ := may_zero hr.symm
    obtain ⟨b', rfl⟩ : ∃ b' : Nat, b = (b' : Int) := ⟨b.toNat, by omega⟩
    obtain ⟨k', rfl⟩ : ∃ k' : Nat, k = (k' : Int) := ⟨k.toNat, by omega⟩
    have hb : b' < S.bs.length := by omega
    obtain ⟨_, c1, _, _, _⟩ := C0.out.cell
    have hlen := C0.out.len
    clear hr
    go_enter Tryz.func107, Tryz.ntmps107
    go_wp2_with fail
    ((with_reducible refine k1.mono ?_); rintro e w' ⟨rfl, rfl⟩)
    go_wp2_with fail
    have C1 : Hid (PChip (((w.alloc (.cells #[.int .i64 (k' : Int)] 3)).alloc (.cells (cl d) 92)).alloc (.cells #[.pointer (some ⟨a.g, b' * 2066, none⟩)] 138)) a S) := Lib.hid (C0.out.alloc _)
    have P1 : Hid (PPow (((w.alloc (.cells #[.int .i64 (k' : Int)] 3)).alloc (.cells (cl d) 92)).alloc (.cells #[.pointer (some ⟨a.g, b' * 2066, none⟩)] 138)) a.p s) := Lib.hid (P0.out.alloc _)
    have D1 : Hid (PArr (((w.alloc (.cells #[.int .i64 (k' : Int)] 3)).alloc (.cells (cl d) 92)).alloc (.cells #[.pointer (some ⟨a.g, b' * 2066, none⟩)] 138)) (w.heap.size + 1) d) := Lib.hid (D0.out.alloc _)
    have K1 : Hid (Blk (((w.alloc (.cells #[.int .i64 (k' : Int)] 3)).alloc (.cells (cl d) 92)).alloc (.cells #[.pointer (some ⟨a.g, b' * 2066, none⟩)] 138)) w.heap.size 3 [.int .i64 (k' : Int)]) := Lib.hid (K0.out.alloc _)
    have T1 : Hid (Blk (((w.alloc (.cells #[.int .i64 (k' : Int)] 3)).alloc (.cells (cl d) 92)).alloc (.cells #[.pointer (some ⟨a.g, b' * 2066, none⟩)] 138)) (w.heap.size + 1 + 1) 138 [.pointer (some ⟨a.g, b' * 2066, none⟩)]) := Lib.hid (by
      have := Blk.new ((w.alloc (.cells #[.int .i64 (k' : Int)] 3)).alloc (.cells (cl d) 92)) 138 [.pointer (some ⟨a.g, b' * 2066, none⟩)]
      rw [World.size_alloc, World.size_alloc] at this
      exact this)
    have hb1 : Below w.heap.size w (((w.alloc (.cells #[.int .i64 (k' : Int)] 3)).alloc (.cells (cl d) 92)).alloc (.cells #[.pointer (some ⟨a.g, b' * 2066, none⟩)] 138)) := hb0.alloc (by simp; omega) _
    obtain ⟨W, hW⟩ : ∃ W, W = (((w.alloc (.cells #[.int .i64 (k' : Int)] 3)).alloc (.cells (cl d) 92)).alloc (.cells #[.pointer (some ⟨a.g, b' * 2066, none⟩)] 138)) := ⟨_, rfl⟩
    rw [← hW] at C1 P1 D1 K1 T1 hb1 ⊢
    have G1 := Lib.hid hb1
    clear hW C0 P0 D0 K0 ck c1 hb0 k1 hb1
    have ck : W.cell? ⟨w.heap.size, 0, none⟩ = some (.int .i64 (k' : Int)) := K1.out.cell 0
    have cp : W.cell? ⟨w.heap.size + 1 + 1, 0, none⟩ = some (.pointer (some ⟨a.g, b' * 2066, none⟩)) := T1.out.cell 0
    have cn := C1.out.bg.next hb
    obtain ⟨nx, hnx⟩ : ∃ nx, nx = S.bs[b'].nx := ⟨_, rfl⟩
    rw [← hnx] at cn
    have HNX : Hid (S.nextOf b' = nx) := Lib.hid (by unfold Ch.nextOf; rw [getBk hb, hnx])
    clear hnx
    by_cases hk : k' = nx
    · subst hk
      have d2 : ((k' : Int) != (k' : Int)) = false := by simp
      go_quiet (fail)
      have b9 : Below W.heap.size W (W.drewN nq) := ⟨rfl, rfl, rfl, Nat.le_refl _, fun _ _ => rfl⟩
      have C2 := C1.out.after b9
      have P2 := P1.out.after b9
      have D2 := D1.out.after b9
      have K2 := K1.out.after b9
      have T2 := T1.out.after b9
      have G2 : Below w.heap.size w (W.drewN nq) := G1.out.trans (b9.mono G1.out.size)
      obtain ⟨W2, hW2⟩ : ∃ W2, W2 = W.drewN nq := ⟨_, rfl⟩
      rw [← hW2] at C2 P2 D2 K2 T2 G2 ⊢
      have cp : W2.cell? ⟨w.heap.size + 1 + 1, 0, none⟩ = some (.pointer (some ⟨a.g, b' * 2066, none⟩)) := T2.cell 0
      have cn : W2.cell? ⟨a.g, b' * 2066 + 2064, none⟩ = some (.int .i64 (k' : Int)) := by rw [hW2]; exact cn
      have fz : W2.frozen? ⟨a.g, b' * 2066 + 2064, none⟩ = false := C2.bg.free _
      have hw : IntKind.i64.wrap ((k' : Int) + 1) = (k' : Int) + 1 := by rw [IntKind.wrap_i64]; omega
      have hg : a.g < w.heap.size := hown _ (.inr (.inl rfl))
      obtain ⟨W5, hW5⟩ : ∃ W5, W5 = W2.setCell ⟨a.g, b' * 2066 + 2064, none⟩ (.int .i64 ((k' : Int) + 1)) := ⟨_, rfl⟩
      have C5 : Hid (PChip W5.drew a (S.setNext b' (k' + 1))) := Lib.hid (C2.setNext (n := k' + 1) hW5 hb (by omega)).drew
      have q5 : Chg W2 W5 (fun j => j = a.g) := by rw [hW5]; exact Chg.of_grown (r := some a.g) ⟨rfl, rfl, rfl, by simp, fun i _ hi => Below.heap_setCell W2 _ _ i (by simpa using hi)⟩ (fun k e => Option.some.inj e)
      have P5 : Hid (PPow W5.drew a.p s) := Lib.hid (P2.chg q5 C2.pg).drew
      have D5 : Hid (PArr W5.drew (w.heap.size + 1) d) := Lib.hid (D2.chg q5 (by omega)).drew
      have K5 : Hid (Blk W5.drew w.heap.size 3 [.int .i64 (k' : Int)]) := Lib.hid (K2.chg q5 (by omega)).drew
      have T5 : Hid (Blk W5.drew (w.heap.size + 1 + 1) 138 [.pointer (some ⟨a.g, b' * 2066, none⟩)]) := Lib.hid (T2.chg q5 (by omega)).drew
      have G5 : Hid (Chg w W5.drew (fun j => a.own j ∨ j = a.p)) := Lib.hid (((Chg.of_below G2).trans (q5.more (fun k _ e => .inl (.inr (.inl e))))).trans (Chg.of_below (Below.refl _ _).drew))
      have nn : ∀ j, w.heap.size ≤ j → ¬ (a.own j ∨ j = a.p) := fun j hj e => e.elim (fun e => by have := hown j e; omega) (fun e => by omega)
      have hbs : b' < (S.setNext b' (k' + 1)).bs.length := by simpa [Ch.setNext] using hb
      have k5 := actP_any a (S.setNext b' (k' + 1)) s b' k' d (w.heap.size + 1 + 1) w.heap.size (w.heap.size + 1) (by omega) hd hbs ho hfit hsm W5.drew C5.out P5.out T5.out K5.out D5.out (nn _ (by omega)) (nn _ (by omega)) (nn _ (by omega))
      have c5 : W5.drew.cell? ⟨w.heap.size + 1 + 1, 0, none⟩ = some (.pointer (some ⟨a.g, b' * 2066, none⟩)) := T5.out.cell 0
      have hre : S.program (b' : Int) (k' : Int) d s = (((S.setNext b' (k' + 1)).actP b' k' d s).1, s.act.1, ((S.setNext b' (k' + 1)).actP b' k' d s).2) := by
        unfold Ch.program
        rw [← HR.out, if_neg (fun h => h rfl), show ((b' : Int)).toNat = b' by omega, show ((k' : Int)).toNat = k' by omega, HNX.out, if_neg (fun h => h rfl)]
      have HRE := Lib.hid hre
      have HW5 := Lib.hid hW5
      clear hre hW5 hW2 C1 P1 D1 K1 T1 G1 C2 P2 D2 K2 T2 G2 q5 b9 ck d2 T5 K5 D5 P5
      go_wp2_with fail
      rw [← HW5.out]
      go_region_held3 (fun w' => w'.cell? ⟨w.heap.size + 1 + 1, 0, none⟩ = some (.pointer (some ⟨a.g, b' * 2066, none⟩))) (first | exact c5 | exact c6)
        (first | (go_at_call 99; (with_reducible refine k5.mono ?_); rintro e w6 ⟨rfl, C6, P6, q6⟩; have c6 : w6.cell? ⟨w.heap.size + 1 + 1, 0, none⟩ = some (.pointer (some ⟨a.g, b' * 2066, none⟩)) := (World.cell?_of_block (a := ⟨w.heap.size + 1 + 1, 0, none⟩) (q6.block _ (by have := World.block_lt_of_cell? _ _ c5; exact this) (nn (w.heap.size + 1 + 1) (by omega)))).trans c5))
      go_wp2_with fail
      (try simp only [Exit.inBlock, Exit.then])
      go_ret
      rw [HRE.out]
      exact ⟨rfl, C6, P6, G5.out.trans q6⟩
    · have d2 : ((k' : Int) != (nx : Int)) = true := by simp; omega
      have hre : S.program (b' : Int) (k' : Int) d s = (S, s, 32) := by
        unfold Ch.program
        rw [← HR.out, if_neg (fun h => h rfl), if_pos (by rw [show ((b' : Int)).toNat = b' by omega, HNX.out]; omega)]
      have HRE := Lib.hid hre
      clear hre
      go_quiet (fail)
      go_wp2_with fail
      (try simp only [Exit.inBlock, Exit.then])
      go_ret
      rw [HRE.out]
      have b9 : Below W.heap.size W (W.drewN nq) := ⟨rfl, rfl, rfl, Nat.le_refl _, fun _ _ => rfl⟩
      exact ⟨rfl, C1.out.after b9, P1.out.after b9, (Chg.of_below G1.out).trans (Chg.of_below b9)⟩
  · have hre : S.program b k d s = (S, s, r) := by
      unfold Ch.program
      rw [← hr, if_pos h0]
    have HRE := Lib.hid hre
    have d1 : (r != 0) = true := by simp [h0]
    clear hre hr h0
    go_enter Tryz.func107, Tryz.ntmps107
    go_wp2_with fail
    ((with_reducible refine k1.mono ?_); rintro e w' ⟨rfl, rfl⟩)
    go_wp2_with fail
    go_ret
    rw [HRE.out]
    exact ⟨rfl, C0.out, P0.out, Chg.of_below hb0⟩
end Go.Proofs.YtdiocjneakfdgaaGreatDoor

/- The contracts of the program's Erase, Read, Put and Die. Condition: the chip and its power are there; few acts so far. -/
namespace Go.Proofs.YtdiocjneakfdgaaGreatDoor
open Go.RowKit
/-- what an Erase does, and answers -/
def Ch.erase (S : Ch) (b : Int) (s : NM.Pwr) : Ch × NM.Pwr × Int :=
  if NM.may s.off S.live S.bs.length b 0 ≠ 0 then (S, s, NM.may s.off S.live S.bs.length b 0)
  else (if ((S.setNext b.toNat 8).actE b.toNat s).2 = 0 then ((S.setNext b.toNat 8).actE b.toNat s).1.setNext b.toNat 0 else ((S.setNext b.toNat 8).actE b.toNat s).1, s.act.1, ((S.setNext b.toNat 8).actE b.toNat s).2)
theorem chg_set (w : World) (g k : Nat) (v : Value) : Chg w (w.setCell ⟨g, k, none⟩ v) (fun j => j = g) := Chg.of_grown (r := some g) ⟨rfl, rfl, rfl, by simp, fun i _ hi => Below.heap_setCell w _ _ i (by simpa using hi)⟩ (fun k e => Option.some.inj e)
set_option maxRecDepth 100000 in
set_option maxHeartbeats 4000000 in
theorem erase_any (a : At) (S : Ch) (s : NM.Pwr) (b : Int) (hfit : s.fits) (hsm : S.few 1000000) (w : World) (h : PChip w a S) (hp : PPow w a.p s) :
    Calls Tryz.prog 72 #[.pointer (some ⟨a.c, 0, none⟩), .int .i64 b] w fun e w' =>
      e = .returned (.int .i64 (S.erase b s).2.2) ∧ PChip w' a (S.erase b s).1 ∧ PPow w' a.p (S.erase b s).2.1 ∧ Chg w w' (fun j => a.own j ∨ j = a.p) := by
  have C0 := Lib.hid h
  have P0 := Lib.hid hp
  have k1 := refuses_any a S s b 0 _ h hp
  obtain ⟨r, hr⟩ : ∃ r, r = NM.may s.off S.live S.bs.length b 0 := ⟨_, rfl⟩
  have HR := Lib.hid hr
  rw [← hr] at k1
  have hmf : ∀ (fn : Fn) (first cap : Array Value) (w : World), (Instr.makeFunc fn first cap).run Tryz.prog w = .ok (.func fn first cap) w := fun _ _ _ _ => rfl
  by_cases h0 : r = 0
  · subst h0
    obtain ⟨ho, hlv, q1, q2, q3, q4⟩ := may_zero hr.symm
    obtain ⟨b', rfl⟩ : ∃ b' : Nat, b = (b' : Int) := ⟨b.toNat, by omega⟩
    have hb : b' < S.bs.length := by omega
    obtain ⟨_, c1, _, _, _⟩ := h.cell
    have hlen := h.len
    have cn := h.bg.next hb
    have fz : w.frozen? ⟨a.g, b' * 2066 + 2064, none⟩ = false := h.bg.free _
    obtain ⟨W5, hW5⟩ : ∃ W5, W5 = w.setCell ⟨a.g, b' * 2066 + 2064, none⟩ (.int .i64 8) := ⟨_, rfl⟩
    have C5 := h.setNext (n := 8) hW5 hb (by omega)
    have q5 : Chg w W5 (fun j => j = a.g) := by rw [hW5]; exact chg_set w a.g _ _
    have P5 := hp.chg q5 h.pg
    have hbs : b' < (S.setNext b' 8).bs.length := by simpa [Ch.setNext] using hb
    have k5 := actE_any a (S.setNext b' 8) s b' hbs ho hfit hsm W5 C5 P5
    have G5 : Hid (Chg w W5 (fun j => a.own j ∨ j = a.p)) := Lib.hid (q5.more (fun k _ e => .inl (.inr (.inl e))))
    obtain ⟨S2, hS2⟩ : ∃ S2, S2 = ((S.setNext b' 8).actE b' s).1 := ⟨_, rfl⟩
    obtain ⟨r2, hr2⟩ : ∃ r2, r2 = ((S.setNext b' 8).actE b' s).2 := ⟨_, rfl⟩
    have hre : S.erase (b' : Int) s = (if r2 = 0 then S2.setNext b' 0 else S2, s.act.1, r2) := by
      unfold Ch.erase
      rw [← HR.out, if_neg (fun h => h rfl), show ((b' : Int)).toNat = b' by omega, hS2, hr2]
    have hbs2 : b' < S2.bs.length := by rw [hS2]; show b' < (wipeB _ _ _).length; rw [wipeB_length]; exact hbs
    rw [← hS2, ← hr2] at k5
    have HRE := Lib.hid hre
    have HW5 := Lib.hid hW5
    clear hre hW5 C0 P0 h hp C5 P5 q5 hr hS2 hr2
    go_enter Tryz.func72, Tryz.ntmps72
    go_wp2_with fail
    ((with_reducible refine k1.mono ?_); rintro e w' ⟨rfl, rfl⟩)
    go_wp2_with fail
    rw [← HW5.out]
    ((with_reducible refine k5.mono ?_); rintro e w6 ⟨rfl, C6, P6, q6⟩)
    have cn6 := C6.bg.next hbs2
    have fz6 : w6.frozen? ⟨a.g, b' * 2066 + 2064, none⟩ = false := C6.bg.free _
    by_cases h2 : r2 = 0
    · subst h2
      obtain ⟨W7, hW7⟩ : ∃ W7, W7 = w6.setCell ⟨a.g, b' * 2066 + 2064, none⟩ (.int .i64 0) := ⟨_, rfl⟩
      have C7 := C6.setNext (n := 0) hW7 hbs2 (by omega)
      have q7 : Chg w6 W7 (fun j => j = a.g) := by rw [hW7]; exact chg_set w6 a.g _ _
      have P7 := P6.chg q7 C6.pg
      have G7 : Hid (Chg w W7 (fun j => a.own j ∨ j = a.p)) := Lib.hid ((G5.out.trans q6).trans (q7.more (fun k _ e => .inl (.inr (.inl e)))))
      have HW7 := Lib.hid hW7
      have HC7 := Lib.hid C7
      have HP7 := Lib.hid P7
      clear hW7 C7 P7 q7 q6 C6 P6
      go_wp2_with fail
      go_ret
      rw [HRE.out, ← HW7.out]; first | rw [if_pos trivial] | rw [if_pos rfl] | skip
      exact ⟨rfl, HC7.out, HP7.out, G7.out⟩
    · have d2 : (r2 == 0) = false := by simp [h2]
      have HC6 := Lib.hid C6
      have HP6 := Lib.hid P6
      have G6 := Lib.hid (G5.out.trans q6)
      have H2 := Lib.hid h2
      clear C6 P6 q6 cn6 fz6 h2
      go_wp2_with fail
      go_ret
      rw [HRE.out, if_neg H2.out]
      exact ⟨rfl, HC6.out, HP6.out, G6.out⟩
  · have hre : S.erase b s = (S, s, r) := by
      unfold Ch.erase
      rw [← hr, if_pos h0]
    have HRE := Lib.hid hre
    have d1 : (r != 0) = true := by simp [h0]
    clear hre hr h0 h hp
    go_enter Tryz.func72, Tryz.ntmps72
    go_wp2_with fail
    ((with_reducible refine k1.mono ?_); rintro e w' ⟨rfl, rfl⟩)
    go_wp2_with fail
    go_ret
    rw [HRE.out]
    exact ⟨rfl, C0.out, P0.out, Chg.refl w _⟩
theorem BG.range {w : World} {g : Nat} {Bs : List Bk} (h : BG w g Bs) {b k : Nat} (hb : b < Bs.length) (hk : k < 8) : w.rangeAt g (b * 2066 + k * 258) (bv (pageOf Bs b k)) := fun j v hj => by
  have hl : (pageOf Bs b k).length = 258 := pageOf_length h.2 hb hk
  have hj' : j < 258 := by
    rcases Nat.lt_or_ge j 258 with h' | h'
    · exact h'
    · rw [List.getElem?_eq_none (by rw [bv_length]; omega)] at hj; cases hj
  rw [h.pbyte hb hk hj' rfl, ← hj, bv_get (by omega), getD_at (by omega)]
/-- what Read answers -/
def Ch.readPage (S : Ch) (e : Int) (b k : Int) : List UInt8 := if e = 0 then pageOf S.bs b.toNat k.toNat else pzeros
set_option maxRecDepth 100000 in
set_option maxHeartbeats 2000000 in
theorem cread_any (a : At) (S : Ch) (s : NM.Pwr) (b k : Int) (w : World) (h : PChip w a S) (hp : PPow w a.p s) :
    Calls Tryz.prog 65 #[.pointer (some ⟨a.c, 0, none⟩), .int .i64 b, .int .i64 k] w fun e w' => e = .returned (.tuple #[.agg (cl (S.readPage (NM.may s.off S.live S.bs.length b k) b k)), .int .i64 (NM.may s.off S.live S.bs.length b k)]) ∧ Below w.heap.size w w' := by
  have z := zeroPage
  have R0 := Lib.hid (PArr.new w pzeros_length)
  have hb0 : Below w.heap.size w (w.alloc (.cells (cl pzeros) 92)) := (Below.refl w.heap.size w).alloc (Nat.le_refl _) _
  have C0 := h.after hb0
  have k1 := refuses_any a S s b k _ C0 (hp.after hb0)
  obtain ⟨_, c1, _, _, _⟩ := C0.cell
  have hlen := h.len
  have HB := Lib.hid hb0
  obtain ⟨e, he⟩ : ∃ e, e = NM.may s.off S.live S.bs.length b k := ⟨_, rfl⟩
  rw [← he] at k1 ⊢
  have HC := Lib.hid C0
  clear h hp hb0 C0
  by_cases h0 : e = 0
  · subst h0
    obtain ⟨ho, hlv, q1, q2, q3, q4⟩ := may_zero he.symm
    obtain ⟨b', rfl⟩ : ∃ b' : Nat, b = (b' : Int) := ⟨b.toNat, by omega⟩
    obtain ⟨k', rfl⟩ : ∃ k' : Nat, k = (k' : Int) := ⟨k.toNat, by omega⟩
    have hb : b' < S.bs.length := by omega
    have hk : k' < 8 := by omega
    have hpg : S.readPage 0 (b' : Int) (k' : Int) = pageOf S.bs b' k' := by
      unfold Ch.readPage
      rw [if_pos rfl, show ((b' : Int)).toNat = b' by omega, show ((k' : Int)).toNat = k' by omega]
    have hL := pageOf_length HC.out.bg.2 hb hk
    have HR := Lib.hid (HC.out.bg.range hb hk)
    have HPG := Lib.hid hpg
    obtain ⟨X, hX⟩ : ∃ X, X = pageOf S.bs b' k' := ⟨_, rfl⟩
    rw [← hX] at HR HPG hL
    clear hX hpg he HC ho hlv
    go_enter Tryz.func65, Tryz.ntmps65
    go_wp2_with fail
    ((with_reducible refine k1.mono ?_); rintro e w' ⟨rfl, rfl⟩)
    go_wp2_with (first | (with_reducible refine wpList_load_mid rfl 92 (.tmp 25) rfl a.g (b' * 2066 + k' * 258) rfl (bv X) _ HR.out Tryz.underlying92 rfl (by rw [bv_length, hL]; exact sizePage) ?_) | (with_reducible refine wpl_pstore (.tmp 6) (.tmp 26) rfl rfl R0.out rfl hL rfl ?_; intro w4 R4 g4 e4))
    refine bodyPost_ret (pret2 rfl _ R4 rfl) rfl ?_
    rw [HPG.out]
    exact ⟨rfl, HB.out.grown g4 (by simp) (fun k e => by cases e; exact Nat.le_refl _)⟩
  · have hpg : S.readPage e b k = pzeros := if_neg h0
    have d1 : (e != 0) = true := by simp [h0]
    have HPG := Lib.hid hpg
    clear hpg h0 HC he
    go_enter Tryz.func65, Tryz.ntmps65
    go_wp2_with fail
    ((with_reducible refine k1.mono ?_); rintro e w' ⟨rfl, rfl⟩)
    go_wp2_with (with_reducible refine wpl_pstore (.tmp 6) (.tmp 15) rfl rfl R0.out rfl pzeros_length rfl ?_; intro w4 R4 g4 e4)
    refine bodyPost_ret (pret2 rfl _ R4 rfl) rfl ?_
    rw [HPG.out]
    exact ⟨rfl, HB.out.grown g4 (by simp) (fun k e => by cases e; exact Nat.le_refl _)⟩
end Go.Proofs.YtdiocjneakfdgaaGreatDoor


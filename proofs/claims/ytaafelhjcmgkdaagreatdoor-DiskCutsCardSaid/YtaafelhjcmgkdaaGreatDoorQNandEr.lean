/- The contracts of the program's Erase, Read, Put and Die. Condition: the chip and its power are there; few acts so far. -/
import Derived.Test.YtaafelhjcmgkdaaGreatDoorQNandProg
namespace Go.Proofs.YtaafelhjcmgkdaaGreatDoor
open Go.RowKit
/-- what an Erase does, and answers -/
def Ch.erase (S : Ch) (b : Int) (s : NM.Pwr) : Ch × NM.Pwr × Int :=
  if NM.may s.off S.live S.bs.length b 0 ≠ 0 then (S, s, NM.may s.off S.live S.bs.length b 0)
  else (if ((S.setNext b.toNat 8).actE b.toNat s).2 = 0 then ((S.setNext b.toNat 8).actE b.toNat s).1.setNext b.toNat 0 else ((S.setNext b.toNat 8).actE b.toNat s).1, s.act.1, ((S.setNext b.toNat 8).actE b.toNat s).2)
theorem chg_set (w : World) (g k : Nat) (v : Value) : Chg w (w.setCell ⟨g, k, none⟩ v) (fun j => j = g) := Chg.of_grown (r := some g) ⟨rfl, rfl, rfl, by simp, fun i _ hi => Below.heap_setCell w _ _ i (by simpa using hi)⟩ (fun k e => Option.some.inj e)
set_option maxRecDepth 100000 in
set_option maxHeartbeats 4000000 in
theorem erase_any (a : At) (S : Ch) (s : NM.Pwr) (b : Int) (hfit : s.fits) (hsm : S.few 1000000) (w : World) (h : PChip w a S) (hp : PPow w a.p s) :
    Calls Tryz.prog 26 #[.pointer (some ⟨a.c, 0, none⟩), .int .i64 b] w fun e w' =>
      e = .returned (.int .i64 (S.erase b s).2.2) ∧ PChip w' a (S.erase b s).1 ∧ PPow w' a.p (S.erase b s).2.1 ∧ Chg w w' (fun j => a.own j ∨ j = a.p) := by
  have C0 := Lib.hid h
  have P0 := Lib.hid hp
  have k1 := refuses_any a S s b 0 _ h hp
  obtain ⟨r, hr⟩ : ∃ r, r = NM.may s.off S.live S.bs.length b 0 := ⟨_, rfl⟩
  have HR := Lib.hid hr
  rw [← hr] at k1
  have hmf : ∀ (fn : Fn) (first cap : Array Value) (w : World), (Instr.makeFunc fn first cap).run Tryz.prog w = .ok (.func fn first cap) w := fun _ _ _ _ => rfl
  by_cases h0 : r = 0
  · subst h0
    obtain ⟨ho, hlv, q1, q2, q3, q4⟩ := may_zero hr.symm
    obtain ⟨b', rfl⟩ : ∃ b' : Nat, b = (b' : Int) := ⟨b.toNat, by omega⟩
    have hb : b' < S.bs.length := by omega
    obtain ⟨_, c1, _, _, _⟩ := h.cell
    have hlen := h.len
    have cn := h.bg.next hb
    have fz : w.frozen? ⟨a.g, b' * 2066 + 2064, none⟩ = false := h.bg.free _
    obtain ⟨W5, hW5⟩ : ∃ W5, W5 = w.setCell ⟨a.g, b' * 2066 + 2064, none⟩ (.int .i64 8) := ⟨_, rfl⟩
    have C5 := h.setNext (n := 8) hW5 hb (by omega)
    have q5 : Chg w W5 (fun j => j = a.g) := by rw [hW5]; exact chg_set w a.g _ _
    have P5 := hp.chg q5 h.pg
    have hbs : b' < (S.setNext b' 8).bs.length := by simpa [Ch.setNext] using hb
    have k5 := actE_any a (S.setNext b' 8) s b' hbs ho hfit hsm W5 C5 P5
    have G5 : Hid (Chg w W5 (fun j => a.own j ∨ j = a.p)) := Lib.hid (q5.more (fun k _ e => .inl (.inr (.inl e))))
    obtain ⟨S2, hS2⟩ : ∃ S2, S2 = ((S.setNext b' 8).actE b' s).1 := ⟨_, rfl⟩
    obtain ⟨r2, hr2⟩ : ∃ r2, r2 = ((S.setNext b' 8).actE b' s).2 := ⟨_, rfl⟩
    have hre : S.erase (b' : Int) s = (if r2 = 0 then S2.setNext b' 0 else S2, s.act.1, r2) := by
      unfold Ch.erase
      rw [← HR.out, if_neg (fun h => h rfl), show ((b' : Int)).toNat = b' by omega, hS2, hr2]
    have hbs2 : b' < S2.bs.length := by rw [hS2]; show b' < (wipeB _ _ _).length; rw [wipeB_length]; exact hbs
    rw [← hS2, ← hr2] at k5
    have HRE := Lib.hid hre
    have HW5 := Lib.hid hW5
    clear hre hW5 C0 P0 h hp C5 P5 q5 hr hS2 hr2
    go_enter Tryz.func26, Tryz.ntmps26
    go_wp2_with fail
    ((with_reducible refine k1.mono ?_); rintro e w' ⟨rfl, rfl⟩)
    go_wp2_with fail
    rw [← HW5.out]
    ((with_reducible refine k5.mono ?_); rintro e w6 ⟨rfl, C6, P6, q6⟩)
    have cn6 := C6.bg.next hbs2
    have fz6 : w6.frozen? ⟨a.g, b' * 2066 + 2064, none⟩ = false := C6.bg.free _
    by_cases h2 : r2 = 0
    · subst h2
      obtain ⟨W7, hW7⟩ : ∃ W7, W7 = w6.setCell ⟨a.g, b' * 2066 + 2064, none⟩ (.int .i64 0) := ⟨_, rfl⟩
      have C7 := C6.setNext (n := 0) hW7 hbs2 (by omega)
      have q7 : Chg w6 W7 (fun j => j = a.g) := by rw [hW7]; exact chg_set w6 a.g _ _
      have P7 := P6.chg q7 C6.pg
      have G7 : Hid (Chg w W7 (fun j => a.own j ∨ j = a.p)) := Lib.hid ((G5.out.trans q6).trans (q7.more (fun k _ e => .inl (.inr (.inl e)))))
      have HW7 := Lib.hid hW7
      have HC7 := Lib.hid C7
      have HP7 := Lib.hid P7
      clear hW7 C7 P7 q7 q6 C6 P6
      go_wp2_with fail
      go_ret
      rw [HRE.out, ← HW7.out]; first | rw [if_pos trivial] | rw [if_pos rfl] | skip
      exact ⟨rfl, HC7.out, HP7.out, G7.out⟩
    · have d2 : (r2 == 0) = false := by simp [h2]
      have HC6 := Lib.hid C6
      have HP6 := Lib.hid P6
      have G6 := Lib.hid (G5.out.trans q6)
      have H2 := Lib.hid h2
      clear C6 P6 q6 cn6 fz6 h2
      go_wp2_with fail
      go_ret
      rw [HRE.out, if_neg H2.out]
      exact ⟨rfl, HC6.out, HP6.out, G6.out⟩
  · have hre : S.erase b s = (S, s, r) := by
      unfold Ch.erase
      rw [← hr, if_pos h0]
    have HRE := Lib.hid hre
    have d1 : (r != 0) = true := by simp [h0]
    clear hre hr h0 h hp
    go_enter Tryz.func26, Tryz.ntmps26
    go_wp2_with fail
    ((with_reducible refine k1.mono ?_); rintro e w' ⟨rfl, rfl⟩)
    go_wp2_with fail
    go_ret
    rw [HRE.out]
    exact ⟨rfl, C0.out, P0.out, Chg.refl w _⟩
theorem BG.range {w : World} {g : Nat} {Bs : List Bk} (h : BG w g Bs) {b k : Nat} (hb : b < Bs.length) (hk : k < 8) : w.rangeAt g (b * 2066 + k * 258) (bv (pageOf Bs b k)) := fun j v hj => by
  have hl : (pageOf Bs b k).length = 258 := pageOf_length h.2 hb hk
  have hj' : j < 258 := by
    rcases Nat.lt_or_ge j 258 with h' | h'
    · exact h'
    · rw [List.getElem?_eq_none (by rw [bv_length]; omega)] at hj; cases hj
  rw [h.pbyte hb hk hj' rfl, ← hj, bv_get (by omega), getD_at (by omega)]
/-- what Read answers -/
def Ch.readPage (S : Ch) (e : Int) (b k : Int) : List UInt8 := if e = 0 then pageOf S.bs b.toNat k.toNat else pzeros
set_option maxRecDepth 100000 in
set_option maxHeartbeats 2000000 in
theorem cread_any (a : At) (S : Ch) (s : NM.Pwr) (b k : Int) (w : World) (h : PChip w a S) (hp : PPow w a.p s) :
    Calls Tryz.prog 42 #[.pointer (some ⟨a.c, 0, none⟩), .int .i64 b, .int .i64 k] w fun e w' => e = .returned (.tuple #[.agg (cl (S.readPage (NM.may s.off S.live S.bs.length b k) b k)), .int .i64 (NM.may s.off S.live S.bs.length b k)]) ∧ Below w.heap.size w w' := by
  have z := zeroPage
  have R0 := Lib.hid (PArr.new w pzeros_length)
  have hb0 : Below w.heap.size w (w.alloc (.cells (cl pzeros) 54)) := (Below.refl w.heap.size w).alloc (Nat.le_refl _) _
  have C0 := h.after hb0
  have k1 := refuses_any a S s b k _ C0 (hp.after hb0)
  obtain ⟨_, c1, _, _, _⟩ := C0.cell
  have hlen := h.len
  have HB := Lib.hid hb0
  obtain ⟨e, he⟩ : ∃ e, e = NM.may s.off S.live S.bs.length b k := ⟨_, rfl⟩
  rw [← he] at k1 ⊢
  have HC := Lib.hid C0
  clear h hp hb0 C0
  by_cases h0 : e = 0
  · subst h0
    obtain ⟨ho, hlv, q1, q2, q3, q4⟩ := may_zero he.symm
    obtain ⟨b', rfl⟩ : ∃ b' : Nat, b = (b' : Int) := ⟨b.toNat, by omega⟩
    obtain ⟨k', rfl⟩ : ∃ k' : Nat, k = (k' : Int) := ⟨k.toNat, by omega⟩
    have hb : b' < S.bs.length := by omega
    have hk : k' < 8 := by omega
    have hpg : S.readPage 0 (b' : Int) (k' : Int) = pageOf S.bs b' k' := by
      unfold Ch.readPage
      rw [if_pos rfl, show ((b' : Int)).toNat = b' by omega, show ((k' : Int)).toNat = k' by omega]
    have hL := pageOf_length HC.out.bg.2 hb hk
    have HR := Lib.hid (HC.out.bg.range hb hk)
    have HPG := Lib.hid hpg
    obtain ⟨X, hX⟩ : ∃ X, X = pageOf S.bs b' k' := ⟨_, rfl⟩
    rw [← hX] at HR HPG hL
    clear hX hpg he HC ho hlv
    go_enter Tryz.func42, Tryz.ntmps42
    go_wp2_with fail
    ((with_reducible refine k1.mono ?_); rintro e w' ⟨rfl, rfl⟩)
    go_wp2_with (first | (with_reducible refine wpList_load_mid rfl 54 (.tmp 25) rfl a.g (b' * 2066 + k' * 258) rfl (bv X) _ HR.out Tryz.underlying54 rfl (by rw [bv_length, hL]; exact sizePage) ?_) | (with_reducible refine wpl_pstore (.tmp 6) (.tmp 26) rfl rfl R0.out rfl hL rfl ?_; intro w4 R4 g4 e4))
    refine bodyPost_ret (pret2 rfl _ R4 rfl) rfl ?_
    rw [HPG.out]
    exact ⟨rfl, HB.out.grown g4 (by simp) (fun k e => by cases e; exact Nat.le_refl _)⟩
  · have hpg : S.readPage e b k = pzeros := if_neg h0
    have d1 : (e != 0) = true := by simp [h0]
    have HPG := Lib.hid hpg
    clear hpg h0 HC he
    go_enter Tryz.func42, Tryz.ntmps42
    go_wp2_with fail
    ((with_reducible refine k1.mono ?_); rintro e w' ⟨rfl, rfl⟩)
    go_wp2_with (with_reducible refine wpl_pstore (.tmp 6) (.tmp 15) rfl rfl R0.out rfl pzeros_length rfl ?_; intro w4 R4 g4 e4)
    refine bodyPost_ret (pret2 rfl _ R4 rfl) rfl ?_
    rw [HPG.out]
    exact ⟨rfl, HB.out.grown g4 (by simp) (fun k e => by cases e; exact Nat.le_refl _)⟩
end Go.Proofs.YtaafelhjcmgkdaaGreatDoor


/- What readEntries of inode reads, plainly and in memory. No condition but that the Reader is there. -/
import Derived.Test.YteihffmenfobaaaQInoRows
import Derived.Test.YteihffmenfobaaaQInoCheck
import Derived.Test.YteihffmenfobaaaQCore
namespace Go.Proofs.Yteihffmenfobaaa
open Go.RowKit
def r1 (l : List UInt8) : Nat := le (l.take 1)
theorem r1_lt (l : List UInt8) : r1 l < 256 := by
  have h := le_lt (l.take 1)
  have h2 : 256 ^ (l.take 1).length ≤ 256 ^ 1 := Nat.pow_le_pow_right (by omega) (by rw [List.length_take]; omega)
  unfold r1
  omega
def rTake (n : Nat) (l : List UInt8) : List UInt8 := if n ≤ l.length then l.take n else []
def rEnt (l : List UInt8) : EN := ⟨⟨(rTake (r1 (l.drop 1)) (l.drop 2)).toArray⟩, (r1 l : Int)⟩
def rRest (l : List UInt8) : List UInt8 := (l.drop 2).drop (r1 (l.drop 1))
def rBad (b : Bool) (l : List UInt8) : Bool := ((b || decide (l.length < 1)) || decide ((l.drop 1).length < 1)) || decide ((l.drop 2).length < r1 (l.drop 1))
/-- so many entries are read: they, what is left, and whether it was too little -/
def rEs : Nat → List UInt8 → Bool → List EN × List UInt8 × Bool
  | 0, l, b => ([], l, b)
  | n + 1, l, b => (rEnt l :: (rEs n (rRest l) (rBad b l)).1, (rEs n (rRest l) (rBad b l)).2)
theorem rnum1' (g h : Nat) (l : List UInt8) (bad : Bool) (w : World) (hr : Rd w g h l bad) :
    Calls Try.prog 47 #[.pointer (some ⟨g, 0, none⟩), .int .i64 1] w fun e w' => e = .returned (.int .u64 (r1 l : Int)) ∧ Rd w' g h (l.drop 1) (bad || decide (l.length < 1)) ∧ w.grownBy w' (some g) := by
  have e1 : wid 1 = 1 := rfl
  by_cases hl : 1 ≤ l.length
  · refine (rnum_yes g h l bad 1 w hr (by rw [e1]; exact hl)).mono ?_
    rintro e w' ⟨rfl, h1, h2⟩
    rw [e1] at h1 ⊢
    rw [decide_eq_false (by omega), Bool.or_false]
    exact ⟨rfl, h1, h2⟩
  · refine (rnum_no g h l bad 1 w hr (by rw [e1]; omega)).mono ?_
    rintro e w' ⟨rfl, h1, h2⟩
    obtain rfl : l = [] := List.eq_nil_of_length_eq_zero (by omega)
    refine ⟨rfl, ?_, h2⟩
    rw [decide_eq_true (by simp), Bool.or_true]
    exact h1
theorem rbytes1 (g h : Nat) (l : List UInt8) (bad : Bool) (n : Nat) (w : World) (hr : Rd w g h l bad) (hh : h < w.heap.size) (hl : l.length ≤ 1000000) :
    Calls Try.prog 72 #[.pointer (some ⟨g, 0, none⟩), .int .i64 (n : Int)] w fun e w' => ∃ g' k c', e = .returned (.slice (some ⟨g', 0, none⟩) k c') ∧ Bytes w' w'.heap.size (.slice (some ⟨g', 0, none⟩) k c') (rTake n l) ∧
      Rd w' g h (l.drop n) (bad || decide (l.length < n)) ∧ w.grownBy w' (some g) := by
  have e1 : (max (n : Int) 0).toNat = n := by omega
  by_cases hn : n ≤ l.length
  · refine (rbytes_yes g h l bad n w hr hh (by rw [e1]; exact hn) hl).mono ?_
    rintro e w' ⟨g', k, c', rfl, _, _, h2, h3, h4⟩
    rw [e1] at h2 h3
    rw [decide_eq_false (by omega), Bool.or_false]
    refine ⟨g', k, c', rfl, ?_, h3, h4⟩
    rw [show rTake n l = l.take n from if_pos hn]
    exact h2.bytes (by rw [List.length_take]; simp only [maxLen]; omega)
  · refine (rbytes_no g h l bad n w hr hh (by rw [e1]; omega)).mono ?_
    rintro e w' ⟨g', c', rfl, _, h2, h3, h4⟩
    refine ⟨g', 0, c', rfl, ?_, ?_, h4⟩
    · rw [show rTake n l = [] from if_neg hn]
      exact h2.bytes (by simp [maxLen])
    · rw [decide_eq_true (by omega), Bool.or_true, List.drop_eq_nil_of_le (by omega)]
      exact h3
theorem OwnE.grown {w w' : World} {base g : Nat} {v : Value} {es : List EN} (h : OwnE w base v es) (hg : g < base) (k : w.grownBy w' (some g)) : OwnE w' base v es :=
  World.ownsRow.kept h k (.inr fun e => by
    have := (World.ownsRow.lt h g e).1
    omega)
theorem rRest_le (l : List UInt8) : (rRest l).length ≤ l.length := by unfold rRest; simp only [List.length_drop]; omega
theorem grown_beyond {w w5 w9 : World} {g : Nat} {row : Option Nat} (h : w.grownBy w5 (some g)) (k : w5.grownBy w9 row) (hrow : ∀ q, row = some q → w.heap.size ≤ q) : w.grownBy w9 (some g) :=
  ⟨k.os.trans h.os, k.tape.trans h.tape, k.output.trans h.output, Nat.le_trans h.size k.size, fun b hb hne =>
    (k.block b (Nat.lt_of_lt_of_le hb h.size) (fun e => by have := hrow b e.symm; omega)).trans (h.block b hb hne)⟩
theorem Rd.beside {w w' : World} {g h : Nat} {l : List UInt8} {bad : Bool} {row : Option Nat} (hr : Rd w g h l bad) (k : w.grownBy w' row) (hh : h < w.heap.size) (h1 : row ≠ some g) (h2 : row ≠ some h) : Rd w' g h l bad :=
  hr.keep (k.block g hr.lt fun e => h1 e.symm) (k.block h hh fun e => h2 e.symm)
set_option maxRecDepth 100000 in
set_option maxHeartbeats 4000000 in
theorem readEntries_any (g h : Nat) (l : List UInt8) (bad : Bool) (w : World) (hr : Rd w g h l bad) (hh : h < w.heap.size) (hl : l.length ≤ 1000000) :
    Calls Try.prog 48 #[.pointer (some ⟨g, 0, none⟩)] w fun e w' => ∃ A c es, Hid (es = (rEs (r1 l) (l.drop 1) (bad || decide (l.length < 1))).1) ∧ e = .returned (.slice A es.length c) ∧ OwnE w' w.heap.size (.slice A es.length c) es ∧
      Rd w' g h (rEs (r1 l) (l.drop 1) (bad || decide (l.length < 1))).2.1 (rEs (r1 l) (l.drop 1) (bad || decide (l.length < 1))).2.2 ∧ w.grownBy w' (some g) := by
  have K1 := Lib.hid (rnum1' g h l bad w hr)
  have HG := Lib.hid hr.lt
  obtain ⟨N, hN⟩ : ∃ N, r1 l = N := ⟨_, rfl⟩
  have hN2 : N < 256 := by rw [← hN]; exact r1_lt l
  rw [hN] at K1 ⊢
  obtain ⟨l1, hl1⟩ : ∃ l1, l.drop 1 = l1 := ⟨_, rfl⟩
  have HL1 : Hid (l1.length ≤ 1000000) := Lib.hid (by rw [← hl1, List.length_drop]; omega)
  obtain ⟨b1, hb1⟩ : ∃ b1, (bad || decide (l.length < 1)) = b1 := ⟨_, rfl⟩
  rw [hl1, hb1] at K1 ⊢
  have HH := Lib.hid hh
  obtain ⟨ti, hi, hz, hs, hby⟩ := infoE'
  clear hr hN hl1 hb1 hl hh
  go_enter Try.func48, Try.ntmps48
  go_wp2_with fail
  refine K1.out.mono ?_
  rintro e w1 ⟨rfl, Rd1, g1⟩
  have HR1 := Lib.hid Rd1
  have HG1 := Lib.hid g1
  clear Rd1 g1 K1
  go_wp2_with fail
  go_loopg [3, 4, 5, 8] N (fun m v x y i wx => ∃ q : Nat, ∃ A c n es lq bq, q + m = N ∧ i = .int .u64 q ∧ Hid (n = es.length) ∧ v = .slice A n c ∧ n = q ∧ Hid (OwnE wx w.heap.size (.slice A n c) es) ∧ Hid (Rd wx g h lq bq) ∧ Hid (w.grownBy wx (some g)) ∧ Hid (lq.length ≤ 1000000) ∧ Hid (rEs N l1 b1 = (es ++ (rEs m lq bq).1, (rEs m lq bq).2)))
  case atStart => exact ⟨0, none, 0, 0, [], l1, b1, by omega, rfl, Lib.hid rfl, rfl, rfl, Lib.hid (OwnE.nil _ _), HR1, HG1, HL1, Lib.hid rfl⟩
  case round =>
    obtain ⟨q, A, c, n, es, lq, bq, hq, rfl, hne, rfl, hnq, hO, hR, hW, hL, hE⟩ := hrel
    subst hnq
    cases gk with
    | zero =>
      obtain rfl : n = N := by omega
      have i4 : ¬ (n : Int) < (n : Int) := by omega
      clear hq
      go_wp2_with fail
      go_ret
      refine ⟨A, c, es, Lib.hid (by rw [hE.out]; simp [rEs]), by rw [← hne.out]; rfl, by rw [← hne.out]; exact hO.out, ?_, hW.out⟩
      rw [hE.out]
      exact hR.out
    | succ m =>
      have i4 : (n : Int) < (N : Int) := by omega
      have ka := rnum1' g h lq bq wr hR.out
      have u1 := r1_lt lq
      have u2 := r1_lt (lq.drop 1)
      obtain ⟨a, ha⟩ : ∃ a, r1 lq = a := ⟨_, rfl⟩
      obtain ⟨s, hsz⟩ : ∃ s, r1 (lq.drop 1) = s := ⟨_, rfl⟩
      have KB := Lib.hid (fun w hr => rnum1' g h (lq.drop 1) (bq || decide (lq.length < 1)) w hr)
      have KC := Lib.hid (fun w hr hh hl => rbytes1 g h (lq.drop 2) ((bq || decide (lq.length < 1)) || decide ((lq.drop 1).length < 1)) s w hr hh hl)
      rw [List.drop_drop] at KB
      have HX : Hid (rEnt lq = ⟨⟨(rTake s (lq.drop 2)).toArray⟩, (a : Int)⟩ ∧ rRest lq = (lq.drop 2).drop s ∧ rBad bq lq = (((bq || decide (lq.length < 1)) || decide ((lq.drop 1).length < 1)) || decide ((lq.drop 2).length < s))) := Lib.hid (by
        unfold rEnt rRest rBad
        rw [ha, hsz]
        exact ⟨rfl, rfl, rfl⟩)
      rw [ha] at ka u1
      rw [hsz] at u2 KB
      have HL2 : Hid ((lq.drop 2).length ≤ 1000000) := Lib.hid (by rw [List.length_drop]; have := hL.out; omega)
      have HL3 : Hid (((lq.drop 2).drop s).length ≤ 1000000) := Lib.hid (by rw [List.length_drop]; have := HL2.out; omega)
      have KA := Lib.hid ka
      clear ka ha hsz
      have ua : (a : Int) < 256 := by omega
      have us : (s : Int) < 256 := by omega
      go_wp2_with fail
      refine KA.out.mono ?_
      rintro e w2 ⟨rfl, R2, g2⟩
      have HR2 := Lib.hid R2
      have HW2 := Lib.hid (hW.out.trans g2)
      have HO2 := Lib.hid (hO.out.grown HG.out g2)
      clear R2 g2 KA
      go_wp2_with fail
      refine (KB.out _ HR2.out).mono ?_
      rintro e w3 ⟨rfl, R3, g3⟩
      have HR3 := Lib.hid R3
      have HW3 := Lib.hid (HW2.out.trans g3)
      have HO3 := Lib.hid (HO2.out.grown HG.out g3)
      have KC3 := Lib.hid (KC.out _ R3 (Nat.lt_of_lt_of_le HH.out HW3.out.size) HL2.out)
      clear R3 g3 KB KC
      go_wp2_with fail
      refine KC3.out.mono ?_
      rintro e w4 ⟨g', k', c', rfl, D4, R4, g4⟩
      have hstr := str_of D4
      have HW4 := Lib.hid (HW3.out.trans g4)
      have HO4 := Lib.hid (HO3.out.grown HG.out g4)
      have HR4 := Lib.hid R4
      obtain ⟨st, hst⟩ : ∃ st : ByteArray, ⟨(rTake s (lq.drop 2)).toArray⟩ = st := ⟨_, rfl⟩
      rw [hst] at hstr HX
      have H5 := Lib.hid ((Below.refl w4.heap.size w4).alloc (Nat.le_refl _) (.cells #[.string st, .int .i64 (a : Int)] 43))
      have HR5 := Lib.hid (HR4.out.same H5.out (Nat.lt_of_lt_of_le HH.out HW4.out.size))
      have HO5 := Lib.hid (HO4.out.kept H5.out)
      have HW5 := Lib.hid (only_below HW4.out H5.out)
      have RW5 := Lib.hid (Row.new w4 #[.string st, .int .i64 (a : Int)] 43 (0, 0) w4.heap.size rfl (B := w4.heap.size + 1) (Nat.lt_succ_self _))
      clear D4 R4 g4 KC3 hst
      go_wp2_with (at_builtin; refine wpl_append_ents hi hz rfl hs hby rfl (.tmp 16) (.tmp 23) rfl hne.out.symm rfl HO5.out _ 1 _ [⟨st, (a : Int)⟩] rfl rfl _ RW5.out (by omega) HW5.out.size (n + 1) rfl ?_; intro A9 c9 w9 O9 g9)
      have HO9 := Lib.hid O9
      have hlo : ∀ q, (Value.slice A n c).ownBlock = some q → w.heap.size ≤ q := fun q e => (World.ownsRow.lt HO5.out q e).1
      have HW9 : Hid (w.grownBy w9 (some g)) := Lib.hid (grown_beyond HW5.out g9 hlo)
      have HR9 := Lib.hid (HR5.out.beside g9 (Nat.lt_of_lt_of_le HH.out HW5.out.size) (fun e => by have := hlo g e; have := HG.out; omega) (fun e => by have := hlo h e; have := HH.out; omega))
      have HE9 : Hid (rEs N l1 b1 = ((es ++ [⟨st, (a : Int)⟩]) ++ (rEs m (rRest lq) (rBad bq lq)).1, (rEs m (rRest lq) (rBad bq lq)).2)) := Lib.hid (by rw [hE.out, List.append_assoc, ← HX.out.1]; rfl)
      rw [HX.out.2.1, HX.out.2.2] at HE9
      clear O9 g9 hlo
      go_roundg m
      case measure => omega
      case rel => exact ⟨n + 1, A9, c9, n + 1, _, _, _, by omega, by go_num, Lib.hid (by rw [List.length_append, ← hne.out]; rfl), rfl, rfl, HO9, HR9, HW9, HL3, HE9⟩
end Go.Proofs.Yteihffmenfobaaa


/- The walk of HandlePlays: it answers true, and changes nothing that was there. No condition. -/
import Derived.Test.YthiembokmhbiaaaQHandSpeaks
import Derived.Test.YthiembokmhbiaaaQHandOps
import Derived.Deep.RegionHeld3
namespace Go.Proofs.Ythiembokmhbiaaa
open Go.RowKit
/-- the program's table and the document's, of the same slots, in memory of the call's own -/
structure HPair (w w' : World) (g r : Nat) (S : List (Bool × Int)) : Prop where
  t : HT w' g S
  m : RT w' r S
  gw : w.heap.size ≤ g
  rw_ : w.heap.size ≤ r
  ne : g ≠ r
  b : Below w.heap.size w w'
section
variable {w w1 w2 : World} {g r : Nat} {S S' : List (Bool × Int)}
theorem HPair.after (h : HPair w w1 g r S) (hb : Below w1.heap.size w1 w2) : HPair w w2 g r S :=
  ⟨h.t.after hb, h.m.after hb, h.gw, h.rw_, h.ne, h.b.trans (hb.mono h.b.size)⟩
theorem HPair.grownT (h : HPair w w1 g r S) (ht : HT w2 g S') (hg : w1.grownBy w2 (some g)) : HT w2 g S' ∧ RT w2 r S ∧ Below w.heap.size w w2 :=
  ⟨ht, h.m.grown hg (by simp only [ne_eq, Option.some.injEq]; exact fun e => h.ne e.symm), h.b.grown hg h.b.size (fun k e => by cases e; exact h.gw)⟩
end
theorem HT.drew {w : World} {g : Nat} {S : List (Bool × Int)} (h : HT w g S) : HT w.drew g S := h.after (Below.refl _ _).drew
theorem RT.drew {w : World} {g : Nat} {S : List (Bool × Int)} (h : RT w g S) : RT w.drew g S := h.after (Below.refl _ _).drew
/-- what Close answers, and leaves; what Get answers -/
def closeA (S : List (Bool × Int)) (h : Int) : Int := if (slotOf S h).1 then 0 else 66
def closeS (S : List (Bool × Int)) (h : Int) : List (Bool × Int) := if (slotOf S h).1 then S.set (h - 1).toNat (false, 0) else S
def getX (S : List (Bool × Int)) (h : Int) : Int := if (slotOf S h).1 then (slotOf S h).2 else 0
def getE (S : List (Bool × Int)) (h : Int) : Int := if (slotOf S h).1 then 0 else 66
def openX (S : List (Bool × Int)) : Int := if fstS S < 6 then (fstS S : Int) + 1 else 0
def openE (S : List (Bool × Int)) : Int := if fstS S < 6 then 0 else 67
theorem closeT (g : Nat) (S : List (Bool × Int)) (h : Int) (w : World) (H : HT w g S) :
    Calls Try.prog 8 #[.pointer (some ⟨g, 0, none⟩), .int .i64 h] w fun e w' => e = .returned (.int .i64 (closeA S h)) ∧ HT w' g (closeS S h) ∧ w.grownBy w' (some g) := close_any g S h w H
theorem closeR (g : Nat) (S : List (Bool × Int)) (h : Int) (w : World) (H : RT w g S) :
    Calls Try.prog 9 #[.pointer (some ⟨g, 0, none⟩), .int .i64 h] w fun e w' => e = .returned (.int .i64 (closeA S h)) ∧ RT w' g (closeS S h) ∧ w.grownBy w' (some g) := rclose_any g S h w H
theorem get_pair (S : List (Bool × Int)) (h : Int) : (if (slotOf S h).1 then #[.int .i64 (slotOf S h).2, .int .i64 0] else #[.int .i64 0, .int .i64 66] : Array Value) = #[.int .i64 (getX S h), .int .i64 (getE S h)] := by
  unfold getX getE
  split <;> rfl
theorem getT (g : Nat) (S : List (Bool × Int)) (h : Int) (w : World) (H : HT w g S) :
    Calls Try.prog 12 #[.pointer (some ⟨g, 0, none⟩), .int .i64 h] w fun e w' => e = .returned (.tuple #[.int .i64 (getX S h), .int .i64 (getE S h)]) ∧ w = w' := by
  rw [← get_pair]
  exact get_any g S h w H
theorem getR (g : Nat) (S : List (Bool × Int)) (h : Int) (w : World) (H : RT w g S) :
    Calls Try.prog 13 #[.pointer (some ⟨g, 0, none⟩), .int .i64 h] w fun e w' => e = .returned (.tuple #[.int .i64 (getX S h), .int .i64 (getE S h)]) ∧ w = w' := by
  rw [← get_pair]
  exact rget_any g S h w H
theorem open_pair (S : List (Bool × Int)) : openA (fstS S) = #[.int .i64 (openX S), .int .i64 (openE S)] := by
  unfold openA openX openE
  split <;> rfl
theorem openT (g : Nat) (S : List (Bool × Int)) (n : Int) (w : World) (H : HT w g S) :
    Calls Try.prog 10 #[.pointer (some ⟨g, 0, none⟩), .int .i64 n] w fun e w' => e = .returned (.tuple #[.int .i64 (openX S), .int .i64 (openE S)]) ∧ HT w' g (S.set (fstS S) (true, n)) ∧ w.grownBy w' (some g) := by
  rw [← open_pair]
  exact open_any g S n w H
theorem openR (g : Nat) (S : List (Bool × Int)) (n : Int) (w : World) (H : RT w g S) :
    Calls Try.prog 11 #[.pointer (some ⟨g, 0, none⟩), .int .i64 n] w fun e w' => e = .returned (.tuple #[.int .i64 (openX S), .int .i64 (openE S)]) ∧ RT w' g (S.set (fstS S) (true, n)) ∧ w.grownBy w' (some g) := by
  rw [← open_pair]
  exact ropen_any g S n w H
theorem new_ref (w : World) : RT (w.alloc (.cells #[.bool false, .bool false, .bool false, .bool false, .bool false, .bool false, .bool false, .int .i64 0, .int .i64 0, .int .i64 0, .int .i64 0, .int .i64 0, .int .i64 0, .int .i64 0] 30)) w.heap.size hS0 :=
  ⟨_, _, Blk.new w _ _, Like.start⟩
set_option maxRecDepth 100000 in
set_option maxHeartbeats 8000000 in
theorem handlePlays_any (v : Value) (w : World) (hs : ∃ os, Script22 w w.heap.size v os) :
    Calls Try.prog 3 #[v] w fun e w' => e = .returned (.bool true) ∧ Below w.heap.size w w' := by
  obtain ⟨os, hs⟩ := hs
  have hs' := hs
  obtain ⟨A, c, rfl, _⟩ := hs'
  have HS := Lib.hid hs
  clear hs
  by_cases hl : 200 < os.length
  · have d1 : decide ((200 : Int) < (os.length : Int)) = true := by simp; omega
    go_enter Try.func3, Try.ntmps3
    go_wp2_with fail
    refine (handspeaks_any _).mono ?_
    rintro e' w1 ⟨rfl, b1⟩
    go_wp2_with fail
    go_ret
    exact ⟨rfl, b1⟩
  · have d1 : decide ((200 : Int) < (os.length : Int)) = false := by simp; omega
    have HLN : Hid (os.length ≤ 200) := Lib.hid (by omega)
    clear hl
    go_enter Try.func3, Try.ntmps3
    go_wp2_with fail
    refine (handspeaks_any _).mono ?_
    rintro e' w1 ⟨rfl, b1⟩
    have B1 := Lib.hid b1
    clear b1
    go_wp2_with ((with_reducible refine (new_any _).mono ?_); rintro e w2 ⟨g, rfl, hg, H1, b2⟩; have HN := Lib.hid (new_ref w2); have HT1 := Lib.hid H1; have HG := Lib.hid hg; have HB2 := Lib.hid b2; clear H1 hg b2)
    clear d1
    obtain ⟨r, hr⟩ : ∃ r, r = w2.heap.size := ⟨_, rfl⟩
    obtain ⟨W, hW⟩ : ∃ W, W = w2.alloc (.cells #[.bool false, .bool false, .bool false, .bool false, .bool false, .bool false, .bool false, .int .i64 0, .int .i64 0, .int .i64 0, .int .i64 0, .int .i64 0, .int .i64 0, .int .i64 0] 30) := ⟨_, rfl⟩
    rw [← hr, ← hW] at HN ⊢
    have P0 : Hid (HPair w W g r hS0) := Lib.hid (by
      have hlt := HT1.out.lt
      have b := B1.out.trans (HB2.out.mono B1.out.size)
      have b2 : Below w2.heap.size w2 W := by rw [hW]; exact (Below.refl _ _).alloc (Nat.le_refl _) _
      exact ⟨HT1.out.after b2, HN.out, Nat.le_trans B1.out.size HG.out, by rw [hr]; exact b.size, by omega, b.trans (b2.mono b.size)⟩)
    clear hr hW HN HT1 HG HB2 B1
    have KZ := Lib.hid zeroOp22
    go_loopw [27] (fun i wr => ∃ j : Nat, j ≤ os.length ∧ i = .int .i64 j ∧ ∃ S, Hid (HPair w wr g r S)) (fun i _ => os.length - (intOf i).toNat)
    case atStart => exact ⟨0, by omega, rfl, hS0, P0⟩
    case round =>
      clear P0
      obtain ⟨j, hj, rfl, S, hP⟩ := hrel
      have hj2 : j ≤ 200 := by have := HLN.out; omega
      by_cases hlt : j < os.length
      · obtain ⟨p, rfl, hok, hld⟩ := HS.out.at_ hlt hP.out.b
        obtain ⟨⟨k, n⟩, ho⟩ : ∃ o, o = os[j] := ⟨_, rfl⟩
        rw [← ho] at hok hld
        have HLD := Lib.hid (show (loadVar 32 (p.add (j * 2))).run Try.prog wr = .ok (.agg #[.int .i64 k, .int .i64 n]) wr from hld)
        have PV0 := Lib.hid (fun o => hP.out.after ((Below.refl wr.heap.size wr).alloc (Nat.le_refl _) o))
        have NG0 : Hid (g < wr.heap.size ∧ r < wr.heap.size) := Lib.hid ⟨hP.out.t.lt, hP.out.m.lt⟩
        have CV0 := Lib.hid (Blk.new wr 32 [.int .i64 k, .int .i64 n])
        clear ho hld hok hP HS
        have NEG0 : Hid (some wr.heap.size ≠ some g) := Lib.hid (by simp only [ne_eq, Option.some.injEq]; have := NG0.out; omega)
        have NER0 : Hid (some wr.heap.size ≠ some r) := Lib.hid (by simp only [ne_eq, Option.some.injEq]; have := NG0.out; omega)
        clear NG0 KZ
        by_cases hk : bits .and .i64 k 3 = 0
        · go_wp2_with (with_reducible refine wpl_o22load (.tmp 29) rfl rfl rfl HLD.out ?_)
          obtain ⟨V, hV⟩ : ∃ V, V = wr.alloc (.cells #[.int .i64 k, .int .i64 n] 32) := ⟨_, rfl⟩
          have PV := Lib.hid (PV0.out (.cells #[.int .i64 k, .int .i64 n] 32))
          rw [← hV] at PV ⊢
          rw [show wr.alloc (.cells [Value.int .i64 k, .int .i64 n].toArray 32) = V from hV.symm] at CV0
          obtain ⟨q, hq⟩ : ∃ q, q = wr.heap.size := ⟨_, rfl⟩
          rw [← hq] at NEG0 NER0 CV0 ⊢
          clear PV0 HLD hV hq hk
          have NEG := NEG0
          have NER := NER0
          have c0 : V.cell? ⟨q, 0, none⟩ = some (.int .i64 k) := CV0.out.cell 0
          have c1 : V.cell? ⟨q, 1, none⟩ = some (.int .i64 n) := CV0.out.cell 1
          obtain ⟨z, hz⟩ : ∃ z, z = closeA S n := ⟨_, rfl⟩
          obtain ⟨T, hT⟩ : ∃ T, T = closeS S n := ⟨_, rfl⟩
          have KC := Lib.hid (closeT g S n V.drew PV.out.t.drew)
          have KR := Lib.hid (fun w3 h => closeR r S n w3 h)
          rw [← hz, ← hT] at KC KR
          clear hz hT
          have dz : (z != z) = false := by simp
          go_region_held3 (fun w' => w'.cell? ⟨q, 1, none⟩ = some (.int .i64 n))
            (first | go_keep | exact c1 | exact c31 | exact c41)
            (first
              | (go_at_call 8; (with_reducible refine KC.out.mono ?_); rintro x w3 ⟨rfl, T3, G3⟩; have P3 := Lib.hid ((PV.out.after (Below.refl _ _).drew).grownT T3 G3); have CV3 := Lib.hid (CV0.out.drew.grown G3 NEG.out); have c31 : w3.cell? ⟨q, 1, none⟩ = some (.int .i64 n) := CV3.out.cell 1)
              | (go_at_call 9; (with_reducible refine (KR.out _ P3.out.2.1).mono ?_); rintro x w4 ⟨rfl, R4, G4⟩; have CV4 := Lib.hid (CV3.out.grown G4 NER.out); have c41 : w4.cell? ⟨q, 1, none⟩ = some (.int .i64 n) := CV4.out.cell 1))
          go_wp2_with fail
          have PW : Hid (HPair w w4 g r T) := Lib.hid ⟨P3.out.1.grown G4 (by simp only [ne_eq, Option.some.injEq]; exact PV.out.ne), R4, PV.out.gw, PV.out.rw_, PV.out.ne, P3.out.2.2.grown G4 P3.out.2.2.size (fun k e => by cases e; exact PV.out.rw_)⟩
          clear T3 G3 R4 G4 CV0 P3 CV3 KC KR PV
          have c40 : w4.cell? ⟨q, 0, none⟩ = some (.int .i64 k) := CV4.out.cell 0
          obtain ⟨x, hx⟩ : ∃ x, x = getX T n := ⟨_, rfl⟩
          obtain ⟨y, hy⟩ : ∃ y, y = getE T n := ⟨_, rfl⟩
          obtain ⟨u, hu⟩ : ∃ u, u = usesS T n := ⟨_, rfl⟩
          obtain ⟨u', hu'⟩ : ∃ u, u = usesS T k := ⟨_, rfl⟩
          have KG := Lib.hid (getT g T n w4 PW.out.t)
          have KGR := Lib.hid (getR r T n w4 PW.out.m)
          have KU1 := Lib.hid (uses_any g T n w4.drew PW.out.t.drew)
          have KR1 := Lib.hid (fun w5 h => ruses_any r T n w5 h)
          have KU2 := Lib.hid (fun w5 h => uses_any g T k w5 h)
          have KR2 := Lib.hid (fun w5 h => ruses_any r T k w5 h)
          rw [← hx, ← hy] at KG KGR
          rw [← hu] at KU1 KR1
          rw [← hu'] at KU2 KR2
          clear hx hy hu hu'
          have dx : (x != x) = false := by simp
          have dy : (y != y) = false := by simp
          have du : (u != u) = false := by cases u <;> rfl
          have du' : (u' != u') = false := by cases u' <;> rfl
          go_wp2_with (first | ((with_reducible refine KG.out.mono ?_); rintro e w5 ⟨rfl, rfl⟩) | ((with_reducible refine KGR.out.mono ?_); rintro e w5 ⟨rfl, rfl⟩))
          clear KG KGR
          go_region_held3 (fun w' => w'.cell? ⟨q, 0, none⟩ = some (.int .i64 k) ∧ w'.cell? ⟨q, 1, none⟩ = some (.int .i64 n))
            (first | go_keep | exact ⟨c40, c41⟩ | exact ⟨c50, c51⟩ | exact ⟨c60, c61⟩)
            (first
              | (go_at_call 14; (with_reducible refine KU1.out.mono ?_); rintro x w5 ⟨rfl, b5⟩; have P5 := Lib.hid ((PW.out.after (Below.refl _ _).drew).after b5); have CV5 := Lib.hid (CV4.out.drew.after b5); have c50 : w5.cell? ⟨q, 0, none⟩ = some (.int .i64 k) := CV5.out.cell 0; have c51 : w5.cell? ⟨q, 1, none⟩ = some (.int .i64 n) := CV5.out.cell 1; clear b5)
              | (go_at_call 15; (with_reducible refine (KR1.out _ P5.out.m).mono ?_); rintro x w5' ⟨rfl, rfl⟩)
              | (go_at_call 14; (with_reducible refine (KU2.out _ P5.out.t).mono ?_); rintro x w6 ⟨rfl, b6⟩; have P6 := Lib.hid (P5.out.after b6); have CV6 := Lib.hid (CV5.out.after b6); have c60 : w6.cell? ⟨q, 0, none⟩ = some (.int .i64 k) := CV6.out.cell 0; have c61 : w6.cell? ⟨q, 1, none⟩ = some (.int .i64 n) := CV6.out.cell 1; clear b6)
              | (go_at_call 15; (with_reducible refine (KR2.out _ P6.out.m).mono ?_); rintro x w6' ⟨rfl, rfl⟩))
          go_wp2_with fail
          exact ⟨⟨j + 1, by omega, by go_num, T, P6⟩, by simp [intOf]; omega⟩
        · go_wp2_with (with_reducible refine wpl_o22load (.tmp 29) rfl rfl rfl HLD.out ?_)
          obtain ⟨V, hV⟩ : ∃ V, V = wr.alloc (.cells #[.int .i64 k, .int .i64 n] 32) := ⟨_, rfl⟩
          have PV := Lib.hid (PV0.out (.cells #[.int .i64 k, .int .i64 n] 32))
          rw [← hV] at PV ⊢
          rw [show wr.alloc (.cells [Value.int .i64 k, .int .i64 n].toArray 32) = V from hV.symm] at CV0
          obtain ⟨q, hq⟩ : ∃ q, q = wr.heap.size := ⟨_, rfl⟩
          rw [← hq] at NEG0 NER0 CV0 ⊢
          obtain ⟨kb, hkb⟩ : ∃ kb, kb = bits .and .i64 k 3 := ⟨_, rfl⟩
          (try rw [← hkb])
          clear PV0 HLD hV hq hk hkb
          have NEG := NEG0
          have NER := NER0
          have c0 : V.cell? ⟨q, 0, none⟩ = some (.int .i64 k) := CV0.out.cell 0
          have c1 : V.cell? ⟨q, 1, none⟩ = some (.int .i64 n) := CV0.out.cell 1
          obtain ⟨ox, hox⟩ : ∃ z, z = openX S := ⟨_, rfl⟩
          obtain ⟨oe, hoe⟩ : ∃ z, z = openE S := ⟨_, rfl⟩
          obtain ⟨T, hT⟩ : ∃ T, T = S.set (fstS S) (true, n) := ⟨_, rfl⟩
          have KC := Lib.hid (openT g S n V PV.out.t)
          have KR := Lib.hid (fun w3 h => openR r S n w3 h)
          rw [← hox, ← hoe, ← hT] at KC KR
          clear hox hoe hT
          have dz : (ox != ox) = false := by simp
          have de : (oe != oe) = false := by simp
          go_wp2_with (first
              | ((with_reducible refine KC.out.mono ?_); rintro e w3 ⟨rfl, T3, G3⟩; have P3 := Lib.hid (PV.out.grownT T3 G3); have CV3 := Lib.hid (CV0.out.grown G3 NEG.out); have c31 : w3.cell? ⟨q, 1, none⟩ = some (.int .i64 n) := CV3.out.cell 1)
              | ((with_reducible refine (KR.out _ P3.out.2.1).mono ?_); rintro e w4 ⟨rfl, R4, G4⟩; have CV4 := Lib.hid (CV3.out.grown G4 NER.out); have c41 : w4.cell? ⟨q, 1, none⟩ = some (.int .i64 n) := CV4.out.cell 1))
          have PW : Hid (HPair w w4 g r T) := Lib.hid ⟨P3.out.1.grown G4 (by simp only [ne_eq, Option.some.injEq]; exact PV.out.ne), R4, PV.out.gw, PV.out.rw_, PV.out.ne, P3.out.2.2.grown G4 P3.out.2.2.size (fun k e => by cases e; exact PV.out.rw_)⟩
          clear T3 G3 R4 G4 CV0 P3 CV3 KC KR PV
          have c40 : w4.cell? ⟨q, 0, none⟩ = some (.int .i64 k) := CV4.out.cell 0
          obtain ⟨x, hx⟩ : ∃ x, x = getX T n := ⟨_, rfl⟩
          obtain ⟨y, hy⟩ : ∃ y, y = getE T n := ⟨_, rfl⟩
          obtain ⟨u, hu⟩ : ∃ u, u = usesS T n := ⟨_, rfl⟩
          obtain ⟨u', hu'⟩ : ∃ u, u = usesS T k := ⟨_, rfl⟩
          have KG := Lib.hid (getT g T n w4 PW.out.t)
          have KGR := Lib.hid (getR r T n w4 PW.out.m)
          have KU1 := Lib.hid (uses_any g T n w4.drew PW.out.t.drew)
          have KR1 := Lib.hid (fun w5 h => ruses_any r T n w5 h)
          have KU2 := Lib.hid (fun w5 h => uses_any g T k w5 h)
          have KR2 := Lib.hid (fun w5 h => ruses_any r T k w5 h)
          rw [← hx, ← hy] at KG KGR
          rw [← hu] at KU1 KR1
          rw [← hu'] at KU2 KR2
          clear hx hy hu hu'
          have dx : (x != x) = false := by simp
          have dy : (y != y) = false := by simp
          have du : (u != u) = false := by cases u <;> rfl
          have du' : (u' != u') = false := by cases u' <;> rfl
          go_wp2_with (first | ((with_reducible refine KG.out.mono ?_); rintro e w5 ⟨rfl, rfl⟩) | ((with_reducible refine KGR.out.mono ?_); rintro e w5 ⟨rfl, rfl⟩))
          clear KG KGR
          go_region_held3 (fun w' => w'.cell? ⟨q, 0, none⟩ = some (.int .i64 k) ∧ w'.cell? ⟨q, 1, none⟩ = some (.int .i64 n))
            (first | go_keep | exact ⟨c40, c41⟩ | exact ⟨c50, c51⟩ | exact ⟨c60, c61⟩)
            (first
              | (go_at_call 14; (with_reducible refine KU1.out.mono ?_); rintro x w5 ⟨rfl, b5⟩; have P5 := Lib.hid ((PW.out.after (Below.refl _ _).drew).after b5); have CV5 := Lib.hid (CV4.out.drew.after b5); have c50 : w5.cell? ⟨q, 0, none⟩ = some (.int .i64 k) := CV5.out.cell 0; have c51 : w5.cell? ⟨q, 1, none⟩ = some (.int .i64 n) := CV5.out.cell 1; clear b5)
              | (go_at_call 15; (with_reducible refine (KR1.out _ P5.out.m).mono ?_); rintro x w5' ⟨rfl, rfl⟩)
              | (go_at_call 14; (with_reducible refine (KU2.out _ P5.out.t).mono ?_); rintro x w6 ⟨rfl, b6⟩; have P6 := Lib.hid (P5.out.after b6); have CV6 := Lib.hid (CV5.out.after b6); have c60 : w6.cell? ⟨q, 0, none⟩ = some (.int .i64 k) := CV6.out.cell 0; have c61 : w6.cell? ⟨q, 1, none⟩ = some (.int .i64 n) := CV6.out.cell 1; clear b6)
              | (go_at_call 15; (with_reducible refine (KR2.out _ P6.out.m).mono ?_); rintro x w6' ⟨rfl, rfl⟩))
          go_wp2_with fail
          exact ⟨⟨j + 1, by omega, by go_num, T, P6⟩, by simp [intOf]; omega⟩
      · obtain rfl : j = os.length := by omega
        go_wp2_with fail
        go_ret
        exact ⟨rfl, hP.out.b⟩
end Go.Proofs.Ythiembokmhbiaaa


/- The walk of CacheRoom: it answers true, and changes nothing that was there. No condition but that the arguments are there. -/
import Derived.Test.YtkpojlnfagonbaaQCacheRoomM
import Derived.Deep.DeepCutAuto
namespace Go.Proofs.Ytkpojlnfagonbaa
open Go Go.RowKit Go.Maps
theorem put_gone (q m s : Nat) (th : List Bool) (mo : Int) (f : Int → Option CV) (w : World) (hq : Cc w q m s) (hs : Src w s em th mo) (hm : MapOk w m f) :
    Calls Try.prog 27 #[.pointer (some ⟨q, 0, none⟩), .slice (some ⟨w.heap.size, 0, none⟩) 1 1] (w.alloc (.cells #[.int .i64 3, .bool true, .slice none 0 0] 67)) fun e w' =>
      e = .returned (.int .i64 0) ∧ (w.alloc (.cells #[.int .i64 3, .bool true, .slice none 0 0] 67)).grownBy w' (some m) ∧ ∃ N D f2 x, w'.ownsMap Try.prog 3 chR m N D ∧ MpD D f2 ∧ f2 3 = some x ∧ x.g = true ∧ Bytes w' w'.heap.size (.slice x.A x.n x.c) [] := by
  obtain ⟨N, D, S, P, h1, h2, h3, h4, h5⟩ := hm
  refine (put_one q m s N f D S P em th mo 3 true w hq hs h2 h3 h4 h5 (by omega) (by omega) (fun M hM _ h => by
    have := cnt_gone hM 3
    omega)).mono ?_
  rintro e w' ⟨a1, a2, f2, D2, a3, a4, a5, a6⟩
  have a7 := a5 3
  rw [if_pos rfl] at a7
  cases hx : f2 3 with
  | none => rw [hx] at a7; cases a7
  | some x =>
    rw [hx] at a7
    have a8 := (a6 3).2 x ⟨true, []⟩ hx (by unfold putP; rw [if_pos rfl]; rfl)
    refine ⟨a1, a2, _, D2, f2, x, a3, a4, hx, by simpa using a7, ?_⟩
    obtain ⟨A, c, b1, b2, b3, _⟩ := a8
    exact ⟨A, c, b1, b2, b3, Row.nil⟩
def low4 (z : Int) : Nat := (z % 18446744073709551616).toNat % 16
theorem and_low4 (z : Int) : bits .and .i64 z 15 = (low4 z : Nat) := and_low z 4 15 rfl (by omega)
set_option maxRecDepth 100000 in
set_option maxHeartbeats 16000000 in
theorem cacheRoom_walk (most key : Int) (v : Value) (l : List UInt8) (w : World) (hv : Bytes w w.heap.size v l) :
    Calls Try.prog 8 #[.int .i64 most, .int .i64 key, v] w fun e w' => e = .returned (.bool true) ∧ Below w.heap.size w w' := by
  obtain ⟨A, c, rfl, hc, hm, _⟩ := id hv
  have HV := Lib.hid hv
  obtain ⟨n, hn⟩ : ∃ n, l.length = n := ⟨_, rfl⟩
  rw [hn] at hc HV ⊢
  clear hv hn
  have KS := Lib.hid (cspeaks_any w)
  have a1 := and_low4 most
  have a2 := and_low4 key
  have hkl : low4 key < 16 := Nat.mod_lt _ (by omega)
  obtain ⟨mo, hmo⟩ : ∃ mo, mo = low4 most := ⟨_, rfl⟩
  obtain ⟨k, hk⟩ : ∃ k, k = low4 key := ⟨_, rfl⟩
  rw [← hmo] at a1
  rw [← hk] at a2 hkl
  clear hmo hk
  go_enter Try.func8, Try.ntmps8
  go_wp2_with fail
  refine KS.out.mono ?_
  rintro e w1 ⟨rfl, b1⟩
  have T1 := Lib.hid b1
  have V1 := Lib.hid ((HV.out.below b1).more b1.size)
  clear KS b1 HV
  by_cases hn2 : n ≤ 224
  · have d1 : decide ((224 : Int) < (n : Int)) = false := by simp; omega
    have zn := zeroNod
    have hl := nod_len 0
    have hs := nod_set 0 (mo : Int)
    have S1 := Lib.hid (nod_src w1 (mo : Int))
    have H1 := Lib.hid ((Below.refl w1.heap.size w1).alloc (Nat.le_refl _) (.cells (nodCells (mo : Int)).toArray 55))
    go_upto_region 7 with (fail)
    obtain ⟨ga, hga⟩ : ∃ ga, ga = w1.heap.size := ⟨_, rfl⟩
    have W1 := Lib.hid (show w.heap.size ≤ ga by rw [hga]; exact T1.out.size)
    have T2 := Lib.hid (T1.out.trans (H1.out.mono T1.out.size))
    have V2 := Lib.hid ((V1.out.below H1.out).more H1.out.size)
    rw [← hga] at S1 ⊢
    obtain ⟨W2, hW2⟩ : ∃ W2, W2 = w1.alloc (.cells (nodCells (mo : Int)).toArray 55) := ⟨_, rfl⟩
    rw [← hW2] at S1 T2 V2 ⊢
    have VB : Hid (∃ B, B ≤ ga ∧ Bytes W2 B (.slice A n c) l) := Lib.hid ⟨w1.heap.size, by rw [hga]; exact Nat.le_refl _, by rw [hW2]; exact V1.out.below H1.out⟩
    obtain ⟨B, hB, VB0⟩ := VB.out
    have VB1 := Lib.hid VB0
    clear hW2 hga H1 T1 V1 V2 zn hl hs VB VB0
    go_loopw [8] (fun i wx => ∃ j : Nat, j ≤ 12 ∧ i = .int .i64 j ∧ Hid (Src wx ga em (thTo j) (mo : Int)) ∧ Hid (Below w.heap.size w wx) ∧ Hid (Bytes wx B (.slice A n c) l)) (fun i _ => 12 - (intOf i).toNat)
    case atStart => exact ⟨0, by omega, rfl, S1, T2, VB1⟩
    case round =>
      clear S1 T2 VB1
      obtain ⟨j, hj, rfl, hS, hT, hV⟩ := hrel
      by_cases hlt : j < 12
      · have d2 : decide ((j : Int) < 12) = true := by simp; omega
        have e1 : (j : Int) < 256 := by omega
        have e2 : ¬ 256 ≤ j := by omega
        have c1 := hS.out.there (k := j) (by omega)
        have f1 := hS.out.blk.free (256 + j)
        have SX := Lib.hid (hS.out.setThere (k := j) (by omega) true)
        have TX := Lib.hid (hT.out.grown (only_set _ ⟨ga, 256 + j, none⟩ (.bool true)) hT.out.size (fun k e => by cases e; exact W1.out))
        have VX := Lib.hid (hV.out.keep (w' := wr.setCell ⟨ga, 256 + j, none⟩ (.bool true)) (fun p hp => World.cell?_of_block ((only_set wr ⟨ga, 256 + j, none⟩ (.bool true)).block p.block (by have := hS.out.lt; omega) (by simp only [ne_eq, Option.some.injEq]; omega))))
        go_wp2_with fail
        exact ⟨⟨j + 1, by omega, by go_num, SX, TX, VX⟩, by simp [intOf]; omega⟩
      · obtain rfl : j = 12 := by omega
        have KN := Lib.hid (new_any ga wr)
        go_upto_region 13 with ((with_reducible refine KN.out.mono ?_); rintro e w2 ⟨q, m, rfl, hq, hm, HC, HM, b2⟩; have C2 := Lib.hid HC; have M2 := Lib.hid HM; have S2 := Lib.hid (hS.out.after b2); have T2 := Lib.hid (hT.out.trans (b2.mono hT.out.size)); have QM := Lib.hid (And.intro (Nat.le_trans hT.out.size hq) (Nat.le_trans hT.out.size hm)); have V2 := Lib.hid (((hV.out.more (Nat.le_of_lt (Nat.lt_of_le_of_lt hB hS.out.lt))).below b2).more b2.size); clear KN b2 HC HM hq hm hS hT hV)
        have NE : Hid (q ≠ m ∧ ga ≠ m ∧ w.heap.size ≤ m) := Lib.hid ⟨neMap C2.out M2.out, neMap S2.out.1 M2.out, QM.out.2⟩
        have KP := Lib.hid (put_room q m ga (mo : Int) k A n c l w2 C2.out S2.out M2.out hkl V2.out hn2)
        have S3 := Lib.hid (S2.out.after ((Below.refl w2.heap.size w2).alloc (Nat.le_refl _) (.cells #[.int .i64 (k : Int), .bool false, .slice A n c] 67)))
        have C3 := Lib.hid (Blk.alloc C2.out (.cells #[.int .i64 (k : Int), .bool false, .slice A n c] 67))
        have T3 := Lib.hid (T2.out.alloc T2.out.size (.cells #[.int .i64 (k : Int), .bool false, .slice A n c] 67))
        clear S2 C2 T2 M2 V2
        go_upto_region 14 with ((with_reducible refine KP.out.mono ?_); rintro e w4 ⟨r, f, rfl, hr, hr1, hr2, g4, hm4⟩; have G4 := Lib.hid g4; have HM4 := Lib.hid hm4; have HR := Lib.hid (And.intro hr (And.intro hr1 hr2)); clear KP g4 hm4 hr hr1 hr2)
        have C4 : Hid (Cc w4 q m ga) := Lib.hid (Blk.grown C3.out G4.out (by simp only [ne_eq, Option.some.injEq]; exact NE.out.1))
        have S4 := Lib.hid (S3.out.grown G4.out (by simp only [ne_eq, Option.some.injEq]; exact NE.out.2.1))
        have T4 := Lib.hid (T3.out.grown G4.out T3.out.size (fun b e => by cases e; exact NE.out.2.2))
        clear C3 S3 T3 G4
        by_cases hk12 : k < 12
        · have d3 : decide ((k : Int) < 12) = true := by simp; omega
          have d4 : decide ((12 : Int) ≤ (k : Int)) = false := by simp; omega
          obtain rfl : r = 0 := HR.out.2.1 hk12
          have KG := Lib.hid (put_gone q m ga (thTo 12) (mo : Int) f w4 C4.out S4.out HM4.out)
          go_upto_region 17 with ((with_reducible refine KG.out.mono ?_); rintro e w6 ⟨rfl, g6, N6, D6, f6, x6, m6, hf6, hx6, hg6, hb6⟩; have G6 := Lib.hid g6; have KGET := Lib.hid (And.intro m6 (And.intro hf6 (And.intro hx6 (And.intro hg6 hb6)))); clear KG g6 m6 hf6 hx6 hg6 hb6)
          have C6 : Hid (Cc w6 q m ga) := Lib.hid (Blk.grown (Blk.alloc C4.out _) G6.out (by simp only [ne_eq, Option.some.injEq]; exact NE.out.1))
          have T6 := Lib.hid ((T4.out.alloc T4.out.size _).grown G6.out (Nat.le_trans T4.out.size (by simp)) (fun b e => by cases e; exact NE.out.2.2))
          have KT := Lib.hid (get_own q m ga N6 f6 D6 3 x6 [] w6 C6.out KGET.out.1 KGET.out.2.1 KGET.out.2.2.1 KGET.out.2.2.2.2 (by simp))
          rw [KGET.out.2.2.2.1] at KT
          simp only [if_true] at KT
          go_wp2_with ((with_reducible refine KT.out.mono ?_); rintro e w7 ⟨b7, rfl⟩; have T7 := Lib.hid (T6.out.trans (b7.mono T6.out.size)); clear KT b7)
          go_ret
          exact ⟨rfl, T7.out⟩
        · have d3 : decide ((k : Int) < 12) = false := by simp; omega
          have d4 : decide ((12 : Int) ≤ (k : Int)) = true := by simp; omega
          have h13 := HR.out.2.2 (by omega)
          rcases HR.out.1 with rfl | rfl
          · have d5 : decide ((13 : Int) ≤ (mo : Int)) = true := by have := h13.1 rfl; simp; omega
            clear h13
            have KG := Lib.hid (put_gone q m ga (thTo 12) (mo : Int) f w4 C4.out S4.out HM4.out)
            go_upto_region 17 with ((with_reducible refine KG.out.mono ?_); rintro e w6 ⟨rfl, g6, N6, D6, f6, x6, m6, hf6, hx6, hg6, hb6⟩; have G6 := Lib.hid g6; have KGET := Lib.hid (And.intro m6 (And.intro hf6 (And.intro hx6 (And.intro hg6 hb6)))); clear KG g6 m6 hf6 hx6 hg6 hb6)
            have C6 : Hid (Cc w6 q m ga) := Lib.hid (Blk.grown (Blk.alloc C4.out _) G6.out (by simp only [ne_eq, Option.some.injEq]; exact NE.out.1))
            have T6 := Lib.hid ((T4.out.alloc T4.out.size _).grown G6.out (Nat.le_trans T4.out.size (by simp)) (fun b e => by cases e; exact NE.out.2.2))
            have KT := Lib.hid (get_own q m ga N6 f6 D6 3 x6 [] w6 C6.out KGET.out.1 KGET.out.2.1 KGET.out.2.2.1 KGET.out.2.2.2.2 (by simp))
            rw [KGET.out.2.2.2.1] at KT
            simp only [if_true] at KT
            go_wp2_with ((with_reducible refine KT.out.mono ?_); rintro e w7 ⟨b7, rfl⟩; have T7 := Lib.hid (T6.out.trans (b7.mono T6.out.size)); clear KT b7)
            go_ret
            exact ⟨rfl, T7.out⟩
          · have d5 : decide ((13 : Int) ≤ (mo : Int)) = false := by
              rw [decide_eq_false_iff_not]
              intro h
              have := h13.2 h
              omega
            clear h13
            have KG := Lib.hid (put_gone q m ga (thTo 12) (mo : Int) f w4 C4.out S4.out HM4.out)
            go_upto_region 17 with ((with_reducible refine KG.out.mono ?_); rintro e w6 ⟨rfl, g6, N6, D6, f6, x6, m6, hf6, hx6, hg6, hb6⟩; have G6 := Lib.hid g6; have KGET := Lib.hid (And.intro m6 (And.intro hf6 (And.intro hx6 (And.intro hg6 hb6)))); clear KG g6 m6 hf6 hx6 hg6 hb6)
            have C6 : Hid (Cc w6 q m ga) := Lib.hid (Blk.grown (Blk.alloc C4.out _) G6.out (by simp only [ne_eq, Option.some.injEq]; exact NE.out.1))
            have T6 := Lib.hid ((T4.out.alloc T4.out.size _).grown G6.out (Nat.le_trans T4.out.size (by simp)) (fun b e => by cases e; exact NE.out.2.2))
            have KT := Lib.hid (get_own q m ga N6 f6 D6 3 x6 [] w6 C6.out KGET.out.1 KGET.out.2.1 KGET.out.2.2.1 KGET.out.2.2.2.2 (by simp))
            rw [KGET.out.2.2.2.1] at KT
            simp only [if_true] at KT
            go_wp2_with ((with_reducible refine KT.out.mono ?_); rintro e w7 ⟨b7, rfl⟩; have T7 := Lib.hid (T6.out.trans (b7.mono T6.out.size)); clear KT b7)
            go_ret
            exact ⟨rfl, T7.out⟩
  · have d1 : decide ((224 : Int) < (n : Int)) = true := by simp; omega
    go_wp2_with fail
    go_ret
    exact ⟨rfl, T1.out⟩
theorem cacheRoom_any (most key : Int) (v : Value) (w : World) (_ : (Lit.int .i64 most).wf = true) (_ : (Lit.int .i64 key).wf = true) (hv : ∃ l, Bytes w w.heap.size v l) :
    Calls Try.prog 8 #[.int .i64 most, .int .i64 key, v] w fun e w' => e = .returned (.bool true) ∧ Below w.heap.size w w' := by
  obtain ⟨l, hv⟩ := hv
  exact cacheRoom_walk most key v l w hv
end Go.Proofs.Ytkpojlnfagonbaa


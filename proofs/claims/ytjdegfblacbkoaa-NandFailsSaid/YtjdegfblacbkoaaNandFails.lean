/- The walk of NandFails: it answers true, and changes nothing that was there. No condition. -/
import Derived.Test.YtjdegfblacbkoaaNandSeq
import Derived.Test.YtjdegfblacbkoaaMapB
import Derived.Test.YtjdegfblacbkoaaNandAnd
namespace Go.Proofs.Ytjdegfblacbkoaa
open Go.RowKit Go.Maps
set_option maxRecDepth 100000 in
set_option maxHeartbeats 8000000 in
theorem fails_main (A : Option Addr) (cap : Nat) (zs : List Int) (n : Int) (w : World) (hv : Nums w w.heap.size .i64 (.slice A zs.length cap) zs) (h20 : zs.length ≤ 20) :
    Calls Try.prog 4 #[.slice A zs.length cap, .int .i64 n] w fun e w' => e = .returned (.bool true) ∧ Below w.heap.size w w' := by
  have d1 : decide ((20 : Int) < (zs.length : Int)) = false := by simp; omega
  have ks := nandspeaks_any w
  have HV := Lib.hid hv
  have hmm := @run_makeMap Try.prog
  clear hv
  go_enter Try.func4, Try.ntmps4
  go_wp2_with ((with_reducible refine ks.mono ?_); rintro e w1 ⟨rfl, b1⟩)
  have B1 := Lib.hid b1
  have k0 := newpower_any w1
  clear b1 ks
  go_wp2_with ((with_reducible refine k0.mono ?_); rintro e w2 ⟨rfl, P2, b2⟩)
  have B2 : Hid (Below w.heap.size w w2) := Lib.hid (B1.out.trans (b2.mono B1.out.size))
  have HP2 := Lib.hid P2
  have k1 := PS.new w1.heap.size _ w2 P2 (z := 16) rfl
  have hs2 : Hid (w1.heap.size < w2.heap.size) := Lib.hid P2.lt
  clear P2 b2 k0
  go_wp2_with ((with_reducible refine k1.mono ?_); rintro e w3 ⟨rfl, C3, b3⟩)
  have B3 : Hid (Below w.heap.size w w3) := Lib.hid (B2.out.trans (b3.mono B2.out.size))
  have HP3 := Lib.hid (HP2.out.after b3)
  have H3 := Lib.hid C3
  have k2 := PS.new w1.heap.size _ w3 HP3.out (z := 16) rfl
  have hs3 : Hid (w2.heap.size + 1 < w3.heap.size) := Lib.hid (C3.own_lt (.inl rfl))
  clear C3 b3 k1 HP2
  go_wp2_with ((with_reducible refine k2.mono ?_); rintro e w4 ⟨rfl, C4, b4⟩)
  have B4 : Hid (Below w.heap.size w w4) := Lib.hid (B3.out.trans (b4.mono B3.out.size))
  have HP4 := Lib.hid (HP3.out.after b4)
  have H4 := Lib.hid (H3.out.after b4)
  have D4 := Lib.hid C4
  have hs4 : Hid (w3.heap.size + 1 < w4.heap.size) := Lib.hid (C4.own_lt (.inl rfl))
  clear C4 b4 k2 H3 HP3
  go_wp2_with fail
  have M5 : (w4.alloc (.map #[] 0)).ownsMap (H := Unit) Try.prog 3 (plainElem Try.prog 4) w4.heap.size 0 (.map []) := World.ownsMap_made w4 _ _ _
  have B5 : Hid (Below w.heap.size w (w4.alloc (.map #[] 0))) := Lib.hid (B4.out.alloc B4.out.size _)
  have n5 : Below w4.heap.size w4 (w4.alloc (.map #[] 0)) := (Below.refl _ _).alloc (Nat.le_refl _) _
  have HP5 := Lib.hid (HP4.out.after n5)
  have H5 := Lib.hid (H4.out.after n5)
  have D5 := Lib.hid (D4.out.after n5)
  have hs0 : Hid (w.heap.size ≤ w1.heap.size) := Lib.hid B1.out.size
  obtain ⟨W5, hW5⟩ : ∃ W5, W5 = w4.alloc (.map #[] 0) := ⟨_, rfl⟩
  have hM5 : w4.heap.size < W5.heap.size := by rw [hW5]; simp
  rw [← hW5] at M5 B5 HP5 H5 D5 ⊢
  obtain ⟨p, hp⟩ : ∃ p, p = w1.heap.size := ⟨_, rfl⟩
  obtain ⟨ga, hga⟩ : ∃ ga, ga = w2.heap.size := ⟨_, rfl⟩
  obtain ⟨gb, hgb⟩ : ∃ gb, gb = w3.heap.size := ⟨_, rfl⟩
  obtain ⟨M, hM⟩ : ∃ M, M = w4.heap.size := ⟨_, rfl⟩
  rw [← hp] at hs0 hs2 HP5 H5 D5
  rw [← hga] at hs2 hs3 H5
  rw [← hgb] at hs3 hs4 D5
  rw [← hM] at hs4 M5 hM5
  simp only [← hp, ← hga, ← hgb, ← hM]
  clear B1 B2 B3 B4 HP4 H4 D4 n5 hW5 hp hga hgb hM
  go_loopw [41] (fun i wr => ∃ j : Nat, j ≤ zs.length ∧ i = .int .i64 j ∧ ∃ D : DataW Unit, wr.ownsMap Try.prog 3 (plainElem Try.prog 4) M j D ∧ InD D (zs.take j) ∧ W5.grownBy wr (some M)) (fun i _ => zs.length - (intOf i).toNat)
  case atStart => exact ⟨0, Nat.zero_le _, rfl, .map [], M5, InD.nil, World.grownBy.refl _ _⟩
  case round =>
    obtain ⟨j, hj, rfl, D, hown, hD, hg⟩ := hrel
    clear M5
    have HO := Lib.hid hown
    have HD := Lib.hid hD
    have HG := Lib.hid hg
    clear hown hD hg
    by_cases hlt : j < zs.length
    · obtain ⟨A', cap', ev, hl1, hl2, hrow, hwf⟩ := HV.out
      obtain ⟨rfl, _, rfl⟩ := Value.slice.inj ev
      obtain ⟨a, rfl, hab, hcell⟩ := hrow.at_ (k := j) (by simpa using hlt)
      have hc2 : wr.cell? (a.add j) = some (Value.int .i64 zs[j]) := by
        have h1 := (B5.out.cell (p := a.add j) (by rw [add_block]; exact hab)).trans hcell
        rw [List.getElem_map] at h1
        have hx := HG.out.block (a.add j).block (by rw [add_block]; exact Nat.lt_of_lt_of_le hab B5.out.size) (by rw [add_block]; have := hs0.out; have := hs2.out; have := hs3.out; have := hs4.out; simp; omega)
        rw [← h1]
        exact World.cell?_of_block hx
      have hz := hwf _ (List.getElem_mem hlt)
      have ht := take_snoc zs (List.getElem?_eq_getElem hlt)
      obtain ⟨z, hzz⟩ : ∃ z, z = zs[j] := ⟨_, rfl⟩
      rw [← hzz] at hc2 hz ht
      have HZ := Lib.hid hz
      have HT := Lib.hid ht
      have hm : Hid (IsMap D) := Lib.hid HO.out.isMap
      clear hcell hz ht hzz ev hrow hwf hl1 hl2
      go_wp2_with (at_mapUpdate; refine wpList_mapUpdate_own _ rfl _ _ _ 62 rfl 3 4 keyLaw Try.underlying62 _ M j _ rfl HO.out (by unfold maxLen; omega) _ _ (.int .i64 z) rfl rfl (keyI HZ.out) _ [] (plainElem_bool Try.underlying4 _) ?_; intro w6 hown6 hg6)
      exact ⟨⟨j + 1, by omega, by go_num, _, hown6, by rw [HT.out]; exact HD.out.put hm.out z, HG.out.trans hg6⟩, by simp [intOf]; omega⟩
    · obtain rfl : j = zs.length := by omega
      have q5 : Chg W5 wr (fun k => k = M) := Chg.of_grown HG.out (fun k e => Option.some.inj e)
      have x0 := hs0.out
      have x2 := hs2.out
      have x3 := hs3.out
      have x4 := hs4.out
      have b6 : Below w.heap.size w wr := B5.out.grown HG.out B5.out.size (fun k e => by cases e; omega)
      have own1 : ∀ (c g p : Nat) (mp : Option Nat) (j : Nat), At.own ⟨c, g, p, mp, none⟩ j → j = c ∨ j = g ∨ mp = some j := fun c g p mp j h => by
        rcases h with h | h | h | h
        · exact .inl h
        · exact .inr (.inl h)
        · exact .inr (.inr h)
        · cases h
      have HP6 := HP5.out.chg q5 (by omega)
      have C6 := H5.out.chg q5 (fun j hj e => by rcases own1 _ _ _ _ _ hj with h | h | h <;> first | omega | cases h)
      have D6 := Lib.hid (D5.out.chg q5 (fun j hj e => by rcases own1 _ _ _ _ _ hj with h | h | h <;> first | omega | cases h))
      have hv6 : Nums wr wr.heap.size .i64 (.slice A zs.length cap) zs := by
        obtain ⟨A', cap', ev, hl1, hl2, hrow, hwf⟩ := HV.out
        exact ⟨A', cap', ev, hl1, hl2, (hrow.below b6).more b6.size, hwf⟩
      have k3 := C6.fail (Nat.lt_of_lt_of_le (show p < W5.heap.size by omega) q5.size) hv6 (by omega)
      have B6 := Lib.hid b6
      have HP6' := Lib.hid HP6
      have hMw : M < wr.heap.size := Nat.lt_of_lt_of_le hM5 q5.size
      have HD' : Hid (InD D zs) := Lib.hid (by have := HD.out; rwa [List.take_length] at this)
      clear C6 hv6 b6 q5 HP6 HD H5 D5 HP5 HG B5 x0 x2 x3 x4 hMw hM5 d1 hmm hj
      have hMw : Hid (M < wr.heap.size) := Lib.hid HO.out.lt
      go_wp2_with fail
      ((with_reducible refine k3.mono ?_); rintro e w7 ⟨mb, rfl, hmb, C7, q7⟩)
      have x0 := hs0.out
      have x2 := hs2.out
      have x3 := hs3.out
      have x4 := hs4.out
      have xm := hMw.out
      have H7 := Lib.hid C7
      have D7 := Lib.hid (D6.out.chg q7 (fun j hj e => by rcases own1 _ _ _ _ _ hj with h | h | h <;> first | (have e' : j = ga + 1 := e; omega) | cases h))
      have P7 := Lib.hid (HP6'.out.chg q7 (show p ≠ ga + 1 by omega))
      have B7 : Hid (Below w.heap.size w w7) := Lib.hid (B6.out.trans (q7.below (fun k e => by have e' : k = ga + 1 := e; omega) B6.out.size))
      have hO7 : w7.ownsMap Try.prog 3 (plainElem Try.prog 4) M zs.length D := by
        obtain ⟨es, cl, hb, r⟩ := HO.out
        exact ⟨es, cl, (q7.block M xm (show M ≠ ga + 1 by omega)).trans hb, r⟩
      have O7 := Lib.hid hO7
      have hmb' : Hid (M < mb) := Lib.hid (Nat.lt_of_lt_of_le xm hmb)
      clear C7 q7 k3 hmb hO7 HO D6 HP6' B6 x0 x2 x3 x4 xm hMw
      obtain ⟨m, hm⟩ : ∃ m : Nat, bits .and .i64 n 127 = (m : Int) ∧ m < 128 := ⟨(n % 128).toNat, by rw [and_127]; omega, by omega⟩
      obtain ⟨hm, hm128⟩ := hm
      go_wp2_with fail
      go_loopw [13] (fun i wr => ∃ j : Nat, j ≤ m ∧ i = .int .i64 j ∧ PS wr ⟨ga + 1, ga, p, some mb, none⟩ j (fun i => decide (i ∈ zs)) ∧ PS wr ⟨gb + 1, gb, p, none, none⟩ j (fun _ => false) ∧ PPow wr p NM.Pwr.fresh ∧ wr.ownsMap Try.prog 3 (plainElem Try.prog 4) M zs.length D ∧ Below w.heap.size w wr) (fun i _ => m - (intOf i).toNat)
      case atStart => exact ⟨0, Nat.zero_le _, rfl, H7.out, D7.out, P7.out, O7.out, B7.out⟩
      case round =>
        obtain ⟨j, hj, rfl, hC, hD, hP, hO, hB⟩ := hrel
        have HC := Lib.hid hC
        have HD := Lib.hid hD
        have HP := Lib.hid hP
        have HO := Lib.hid hO
        have HB := Lib.hid hB
        clear hC hD hP hO hB H7 D7 P7 B7 O7 HV
        by_cases hlt : j < m
        · have hj8 : (UInt8.ofNat j).toNat = j := by rw [UInt8.toNat_ofNat']; omega
          have kp := lpage_at (UInt8.ofNat j) (j : Int) (by rw [hj8])
          have hL := lpage_length (UInt8.ofNat j)
          obtain ⟨L, hLL⟩ : ∃ L, L = lpage (UInt8.ofNat j) := ⟨_, rfl⟩
          rw [← hLL] at kp hL
          have cC : Hid ((InD D zs) ∧ keyOf Try.prog 3 (.int .i64 (j : Int)) = some (.int .i64 (j : Int))) := Lib.hid ⟨HD'.out, keyI (wfI (by omega) (by omega))⟩
          obtain ⟨c, hc⟩ : ∃ c : Bool, c = decide ((j : Int) ∈ zs) := ⟨_, rfl⟩
          have hat : D.atKey (.int .i64 (j : Int)) (.lit (.bool false)) = .lit (.bool c) := by rw [HD'.out, hc]
          have hat' := Lib.hid hat
          obtain ⟨r, hr⟩ : ∃ r : Int, r = if c then 33 else 0 := ⟨_, rfl⟩
          have hcc : Hid (r = if decide ((j : Int) ∈ zs) then (33 : Int) else 0) := Lib.hid (by rw [hr, hc])
          have hrr := Lib.hid hr
          clear hr
          clear hLL hj8 hat hc
          go_wp2_with fail
          ((with_reducible refine (kp _).mono ?_); rintro e w8 ⟨rfl, b8⟩)
          have HC8 := Lib.hid (HC.out.after b8)
          have HD8 := Lib.hid (HD.out.after b8)
          have HP8 := Lib.hid (HP.out.after b8)
          have HB8 := Lib.hid (HB.out.trans (b8.mono HB.out.size))
          have hO8 : w8.ownsMap Try.prog 3 (plainElem Try.prog 4) M zs.length D := HO.out.kept (grown_below b8) (by simp)
          have HO8 := Lib.hid hO8
          clear b8 HC HD HP HB HO hO8
          go_wp2_with fail
          ((with_reducible refine (HC8.out.program HP8.out (by omega) hL ?_ ?_ hcc.out).mono ?_); rotate_left 2; rintro e w9 ⟨rfl, C9, P9, q9⟩)
          have x0 := hs0.out
          have x2 := hs2.out
          have x3 := hs3.out
          have x4 := hs4.out
          have x5 := hmb'.out
          have q9' : ∀ i, At.all ⟨ga + 1, ga, p, some mb, none⟩ i → i = ga + 1 ∨ i = ga ∨ i = mb ∨ i = p := fun i h => by
            rcases h with h | h
            · rcases own1 _ _ _ _ _ h with h | h | h
              · exact .inl h
              · exact .inr (.inl h)
              · exact .inr (.inr (.inl (Option.some.inj h).symm))
            · exact .inr (.inr (.inr h))
          have r9' : ∀ i, At.all ⟨gb + 1, gb, p, none, none⟩ i → i = gb + 1 ∨ i = gb ∨ i = p := fun i h => by
            rcases h with h | h
            · rcases own1 _ _ _ _ _ h with h | h | h
              · exact .inl h
              · exact .inr (.inl h)
              · cases h
            · exact .inr (.inr h)
          have HC9 := Lib.hid C9
          have HP9 := Lib.hid P9
          have HD9 := Lib.hid (HD8.out.chg q9 (fun i hi e => by have h1 := q9' i e; rcases own1 _ _ _ _ _ hi with h | h | h <;> first | omega | cases h))
          have HB9 : Hid (Below w.heap.size w w9) := Lib.hid (HB8.out.trans (q9.below (fun i e => by have h1 := q9' i e; omega) HB8.out.size))
          have hO9 : w9.ownsMap Try.prog 3 (plainElem Try.prog 4) M zs.length D := by
            obtain ⟨es, cl, hb, r⟩ := HO8.out
            exact ⟨es, cl, (q9.block M HO8.out.lt (fun e => by have h1 := q9' _ e; omega)).trans hb, r⟩
          have HO9 := Lib.hid hO9
          have HQ9 := Lib.hid q9'
          have HR9 := Lib.hid r9'
          clear C9 P9 q9 HC8 HD8 HP8 HB8 HO8 hO9 q9' r9' x0 x2 x3 x4 x5
          go_wp2_with fail
          ((with_reducible refine (kp _).mono ?_); rintro e wa ⟨rfl, ba⟩)
          have HCa := Lib.hid (HC9.out.after ba)
          have HDa := Lib.hid (HD9.out.after ba)
          have HPa := Lib.hid (HP9.out.after ba)
          have HBa := Lib.hid (HB9.out.trans (ba.mono HB9.out.size))
          have hOa : wa.ownsMap Try.prog 3 (plainElem Try.prog 4) M zs.length D := HO9.out.kept (grown_below ba) (by simp)
          have HOa := Lib.hid hOa
          clear ba HC9 HD9 HP9 HB9 HO9 hOa
          go_wp2_with fail
          ((with_reducible refine (HDa.out.program HPa.out (by omega) hL (r := 0) ?_ ?_ (by simp)).mono ?_); rotate_left 2; rintro e wb ⟨rfl, Db, Pb, qb⟩)
          have x0 := hs0.out
          have x2 := hs2.out
          have x3 := hs3.out
          have x4 := hs4.out
          have x5 := hmb'.out
          have HDb := Lib.hid Db
          have HPb := Lib.hid Pb
          have HCb := Lib.hid (HCa.out.chg qb (fun i hi e => by have h1 := HR9.out i e; rcases own1 _ _ _ _ _ hi with h | h | h <;> first | omega | (have h' := Option.some.inj h; omega)))
          have HBb : Hid (Below w.heap.size w wb) := Lib.hid (HBa.out.trans (qb.below (fun i e => by have h1 := HR9.out i e; omega) HBa.out.size))
          have hOb : wb.ownsMap Try.prog 3 (plainElem Try.prog 4) M zs.length D := by
            obtain ⟨es, cl, hb, r⟩ := HOa.out
            exact ⟨es, cl, (qb.block M HOa.out.lt (fun e => by have h1 := HR9.out _ e; omega)).trans hb, r⟩
          have HOb := Lib.hid hOb
          clear Db Pb qb HCa HDa HPa HBa HOa hOb x0 x2 x3 x4 x5 kp
          have hr := hrr.out
          clear hcc hrr
          cases c
          · obtain rfl : r = 0 := hr
            go_wp2_with (first
              | (at_lookup; refine wpl_lookup_bool (by rfl) (.tmp 75) (.tmp 76) 62 rfl keyLaw Try.underlying62 Try.underlying4 (zeroBool _) rfl HOb.out _ (.int .i64 (j : Int)) rfl cC.out.2 false hat'.out ?_)
              | (at_lookup; refine wpl_lookup_bool (by rfl) (.tmp 82) (.tmp 83) 62 rfl keyLaw Try.underlying62 Try.underlying4 (zeroBool _) rfl HOb.out _ (.int .i64 (j : Int)) rfl cC.out.2 false hat'.out ?_))
            exact ⟨⟨j + 1, by omega, by go_num, HCb.out, HDb.out, HPb.out, HOb.out, HBb.out⟩, by simp [intOf]; omega⟩
          · obtain rfl : r = 33 := hr
            go_wp2_with (first
              | (at_lookup; refine wpl_lookup_bool (by rfl) (.tmp 75) (.tmp 76) 62 rfl keyLaw Try.underlying62 Try.underlying4 (zeroBool _) rfl HOb.out _ (.int .i64 (j : Int)) rfl cC.out.2 true hat'.out ?_)
              | (at_lookup; refine wpl_lookup_bool (by rfl) (.tmp 82) (.tmp 83) 62 rfl keyLaw Try.underlying62 Try.underlying4 (zeroBool _) rfl HOb.out _ (.int .i64 (j : Int)) rfl cC.out.2 true hat'.out ?_))
            exact ⟨⟨j + 1, by omega, by go_num, HCb.out, HDb.out, HPb.out, HOb.out, HBb.out⟩, by simp [intOf]; omega⟩
          all_goals omega
        · obtain rfl : j = m := by omega
          have kc := HC.out.count
          go_wp2_with ((with_reducible refine kc.mono ?_); rintro e w' ⟨rfl, rfl⟩)
          go_ret
          exact ⟨rfl, HB.out⟩
theorem fails_long (v : Value) (zs : List Int) (n : Int) (w : World) (hv : Nums w w.heap.size .i64 v zs) (h20 : ¬ zs.length ≤ 20) :
    Calls Try.prog 4 #[v, .int .i64 n] w fun e w' => e = .returned (.bool true) ∧ Below w.heap.size w w' := by
  obtain ⟨A, cap, rfl, _, _, _, _⟩ := hv
  have d1 : decide ((20 : Int) < (zs.length : Int)) = true := by simp; omega
  have ks := nandspeaks_any w
  go_enter Try.func4, Try.ntmps4
  go_wp2_with ((with_reducible refine ks.mono ?_); rintro e w1 ⟨rfl, b1⟩)
  go_ret
  exact ⟨rfl, b1⟩
theorem nandFails_any (v : Value) (n : Int) (w : World) (h : ∃ zs, Nums w w.heap.size .i64 v zs) (_ : (Lit.int .i64 n).wf = true) :
    Calls Try.prog 4 #[v, .int .i64 n] w fun e w' => e = .returned (.bool true) ∧ Below w.heap.size w w' := by
  obtain ⟨zs, hz⟩ := h
  by_cases h20 : zs.length ≤ 20
  · have hz' := hz
    obtain ⟨A, cap, rfl, _⟩ := hz
    exact fails_main A cap zs n w hz' h20
  · exact fails_long v zs n w hz h20
end Go.Proofs.Ytjdegfblacbkoaa

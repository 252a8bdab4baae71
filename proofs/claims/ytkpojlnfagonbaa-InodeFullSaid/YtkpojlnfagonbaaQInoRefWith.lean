/- What the document's With of one entry gives. No condition but that the entries are there. (written by gen_inorefwith.py) -/
import Derived.Test.YtkpojlnfagonbaaQInoWith
import Derived.Test.YtkpojlnfagonbaaQInoRef
import Derived.Test.YtkpojlnfagonbaaQInoRefFind
import Derived.Test.YtkpojlnfagonbaaQInoStep
import Derived.Deep.QuietTactic
import Derived.BigQuiet
namespace Go.Proofs.Ytkpojlnfagonbaa
open Go Go.RowKit
theorem insP_next {es : List EN} {q : Nat} (h : q < es.length) (put : Bool) (x : EN) : insP put (es.drop q) x = if (!put && less x.n (atE es q).n) = true then x :: atE es q :: insP true (es.drop (q + 1)) x else atE es q :: insP put (es.drop (q + 1)) x := by
  have hd : es.drop q = atE es q :: es.drop (q + 1) := by
    have h1 := atE_get h
    obtain ⟨hl, he⟩ := List.getElem?_eq_some_iff.1 h1
    rw [List.drop_eq_getElem_cons hl, he]
  rw [hd]
  rfl
theorem gtr_less (a b : ByteArray) : (!Op.bytesLess a.toList b.toList && !a.toList == b.toList) = less b a := by
  show (!less a b && !a.toList == b.toList) = less b a
  cases h : less b a with
  | true =>
    rw [less_asymm h]
    have : (a.toList == b.toList) = false := by
      rw [beq_eq_false_iff_ne]
      intro e
      rw [toList_inj e, less_irrefl] at h
      cases h
    rw [this]
    rfl
  | false =>
    cases h2 : less a b with
    | true => rfl
    | false =>
      obtain rfl := less_total h2 h
      simp
/-- of one entry -/
theorem withI_one (n : IN) (x : EN) : withI n [x] = if n.dir then (if okE x = false then (⟨0, 0, []⟩, 1) else if (findL n.es x.n).2 = true then (⟨0, 0, []⟩, 62) else if n.es.length = 8 then (⟨0, 0, []⟩, 67) else (⟨2, 0, insP false n.es x⟩, 0)) else (⟨0, 0, []⟩, 63) := by
  unfold withI
  by_cases h : n.dir
  · rw [if_pos h, if_pos h]
    unfold withL
    by_cases h1 : okE x = false
    · simp [h1]
    · rw [if_neg h1]
      by_cases h2 : (findL n.es x.n).2 = true
      · simp [h1, h2]
      · by_cases h3 : n.es.length = 8
        · simp [h1, h2, h3]
        · simp [h1, h2, h3, withL]
  · rw [if_neg h, if_neg h]
theorem insP_len (x : EN) : ∀ (put : Bool) (es : List EN), (insP put es x).length ≤ es.length + 1
  | put, [] => by cases put <;> simp [insP]
  | put, y :: ys => by
    have h1 := insP_len x true ys
    have h2 := insP_len x put ys
    have h3 := insP_true x ys
    unfold insP
    split
    · rw [h3]; simp
    · simp only [List.length_cons]; omega
theorem dir_iff (n : IN) (h : n.k = 2) : decide n.ok = decide n.dir := decide_eq_decide.2 ⟨fun h' => h'.elim (fun f => absurd (h.symm.trans f.1) (by decide)) id, .inr⟩
set_option maxRecDepth 100000 in
set_option maxHeartbeats 16000000 in
theorem refWith_any (n : IN) (v : Value) (x : EN) (w : World) (hv : Ents w w.heap.size v n.es) (hl : n.es.length ≤ 1000) :
    Calls Try.prog 13 #[.agg #[.int .i64 n.k, .int .i64 n.z, v], .agg #[.string x.n, .int .i64 x.i]] w fun e w' => WithP (withI n [x]) w.heap.size e w' ∧ Below w.heap.size w w' := by
  obtain ⟨RI, hRI⟩ : ∃ RI, RI = withI n [x] := ⟨_, rfl⟩
  have hR1 := hRI.trans (withI_one n x)
  have HRI := Lib.hid hR1
  rw [← hRI]
  have ZO := Lib.hid zI_one
  obtain ⟨A, c, rfl, hc, hmx⟩ := hv.shape
  have b1 := (Below.refl w.heap.size w).alloc (Nat.le_refl _) (.cells #[.int .i64 n.k, .int .i64 n.z, .slice A n.es.length c] 24)
  have b2 := b1.alloc b1.size (.cells #[.string x.n, .int .i64 x.i] 32)
  have b3 := b2.alloc b2.size (.cells #[.int .i64 0, .int .i64 0, .slice none 0 0] 24)
  have HB := Lib.hid b3
  have B1 := Lib.hid (((Blk.new w 24 [.int .i64 n.k, .int .i64 n.z, .slice A n.es.length c]).alloc (.cells #[.string x.n, .int .i64 x.i] 32)).alloc (.cells #[.int .i64 0, .int .i64 0, .slice none 0 0] 24))
  have E0 := (Blk.new (w.alloc (.cells #[.int .i64 n.k, .int .i64 n.z, .slice A n.es.length c] 24)) 32 [.string x.n, .int .i64 x.i]).alloc (.cells #[.int .i64 0, .int .i64 0, .slice none 0 0] 24)
  rw [World.size_alloc] at E0
  have E1 := Lib.hid E0
  have R0 := Blk.new ((w.alloc (.cells #[.int .i64 n.k, .int .i64 n.z, .slice A n.es.length c] 24)).alloc (.cells #[.string x.n, .int .i64 x.i] 32)) 24 [.int .i64 0, .int .i64 0, .slice none 0 0]
  rw [World.size_alloc, World.size_alloc] at R0
  have R1 := Lib.hid R0
  have V1 := Lib.hid (hv.after b3)
  obtain ⟨N, hN⟩ : ∃ N, n.es.length = N := ⟨_, rfl⟩
  have HN := Lib.hid hN
  rw [hN] at hc HB B1 E1 R1 V1 hl ⊢
  clear b1 b2 b3 hv hRI hR1 E0 R0 hN
  obtain ⟨k, z, es⟩ := n
  simp only at HN HRI V1 HB B1 E1 R1 ⊢
  go_enter Try.func13, Try.ntmps13
  obtain ⟨W, hW⟩ : ∃ W, W = ((w.alloc (.cells #[.int .i64 k, .int .i64 z, .slice A N c] 24)).alloc (.cells #[.string x.n, .int .i64 x.i] 32)).alloc (.cells #[.int .i64 0, .int .i64 0, .slice none 0 0] 24) := ⟨_, rfl⟩
  rw [← hW] at HB B1 E1 R1 V1
  have SZ : Hid (W.heap.size = w.heap.size + 3) := Lib.hid (by rw [hW]; simp)
  by_cases hk2 : k = 2
  · subst hk2
    have KR := Lib.hid (irefRight_any ⟨2, z, es⟩ _ W V1.out)
    rw [dir_iff ⟨2, z, es⟩ rfl] at KR
    have B1' := Lib.hid (show Blk (((w.alloc (.cells #[.int .i64 2, .int .i64 z, .slice A N c] 24)).alloc (.cells #[.string x.n, .int .i64 x.i] 32)).alloc (.cells #[.int .i64 0, .int .i64 0, .slice none 0 0] 24)) w.heap.size 24 [.int .i64 2, .int .i64 z, .slice A N c] by rw [← hW]; exact B1.out)
    go_wp2_with (with_reducible refine wpl_seg_load aggI sizeI (.tmp 2) rfl (by rfl) B1'.out 0 [.int .i64 2, .int .i64 z, .slice A N c] rfl rfl rfl ?_)
    rw [← hW]
    obtain ⟨g0, hg0⟩ : ∃ g0, g0 = w.heap.size := ⟨_, rfl⟩
    have HG0 := Lib.hid hg0
    rw [← hg0] at B1 E1 R1 SZ ⊢
    clear hW hg0 B1'
    refine KR.out.mono ?_
    rintro e w1 ⟨rfl, hb1⟩
    have B2 := Lib.hid (B1.out.after hb1)
    have E2 := Lib.hid (E1.out.after hb1)
    have R2 := Lib.hid (R1.out.after hb1)
    have V2 := Lib.hid (V1.out.after hb1)
    have HB2 := Lib.hid (HB.out.trans (hb1.mono HB.out.size))
    have SZ2 : Hid (g0 + 3 ≤ w1.heap.size) := Lib.hid (by have := SZ.out; have := hb1.size; omega)
    clear hb1 KR B1 E1 R1 V1 HB
    cases hd : decide (IN.dir ⟨2, z, es⟩) with
    | false =>
      have hz : Hid (RI = (⟨0, 0, []⟩, 63)) := Lib.hid (by rw [HRI.out, if_neg (by simpa using hd)])
      clear hd
      go_wp2_with ((with_reducible refine wpl_seg_store sizeI (.tmp 4) (.tmp 19) rfl rfl R2.out 0 [.int .i64 0, .int .i64 0, .slice none 0 0] rfl (Nat.le_refl _) ZO.out rfl rfl _ rfl ?_); intro w7 B7 g7 e7)
      refine bodyPost_ret (sret2 aggI sizeI rfl _ B7 (i := 0) (vs := [.int .i64 0, .int .i64 0, .slice none 0 0]) rfl rfl rfl) rfl ?_
      rw [hz.out]
      exact ⟨WithP.no 63 _ _ rfl, (HB2.out).grown g7 (HB2.out).size (fun k e => by cases e; have := HG0.out; omega)⟩
    | true =>
      have hz1 : Hid (RI = if okE x = false then (⟨0, 0, []⟩, 1) else if (findL es x.n).2 = true then (⟨0, 0, []⟩, 62) else if es.length = 8 then (⟨0, 0, []⟩, 67) else (⟨2, 0, insP false es x⟩, 0)) := Lib.hid (by rw [HRI.out, if_pos (by simpa using hd)])
      have HD : Hid (IN.dir ⟨2, z, es⟩) := Lib.hid (by simpa using hd)
      have KF := Lib.hid (fits_any x w1)
      have e20 : w1.cell? ⟨g0 + 1, 0, none⟩ = some (.string x.n) := E2.out.cell 0
      have e21 : w1.cell? ⟨g0 + 1, 1, none⟩ = some (.int .i64 x.i) := E2.out.cell 1
      clear hd HRI
      go_wp2_with fail
      refine KF.out.mono ?_
      rintro e w2 ⟨rfl, hb2⟩
      have B3 := Lib.hid (B2.out.after hb2)
      have E3 := Lib.hid (E2.out.after hb2)
      have R3 := Lib.hid (R2.out.after hb2)
      have V3 := Lib.hid (V2.out.after hb2)
      have HB3 := Lib.hid (HB2.out.trans (hb2.mono HB2.out.size))
      have SZ3 : Hid (g0 + 3 ≤ w2.heap.size) := Lib.hid (by have := SZ2.out; have := hb2.size; omega)
      clear hb2 KF B2 E2 R2 V2 HB2 e20 e21
      cases hok : okE x with
      | false =>
        have hz : Hid (RI = (⟨0, 0, []⟩, 1)) := Lib.hid (by rw [hz1.out, if_pos hok])
        clear hok
        go_wp2_with ((with_reducible refine wpl_seg_store sizeI (.tmp 4) (.tmp 23) rfl rfl R3.out 0 [.int .i64 0, .int .i64 0, .slice none 0 0] rfl (Nat.le_refl _) ZO.out rfl rfl _ rfl ?_); intro w7 B7 g7 e7)
        refine bodyPost_ret (sret2 aggI sizeI rfl _ B7 (i := 0) (vs := [.int .i64 0, .int .i64 0, .slice none 0 0]) rfl rfl rfl) rfl ?_
        rw [hz.out]
        exact ⟨WithP.no 1 _ _ rfl, (HB3.out).grown g7 (HB3.out).size (fun k e => by cases e; have := HG0.out; omega)⟩
      | true =>
        have hz2 := Lib.hid (hz1.out.trans (if_neg (by rw [hok]; simp)))
        have KD := Lib.hid (refFind_any ⟨2, z, es⟩ _ x.n w2 V3.out)
        have e30 : w2.cell? ⟨g0 + 1, 0, none⟩ = some (.string x.n) := E3.out.cell 0
        clear hok hz1
        go_wp2_with (with_reducible refine wpl_seg_load aggI sizeI (.tmp 2) rfl rfl B3.out 0 [.int .i64 2, .int .i64 z, .slice A N c] rfl rfl rfl ?_)
        refine KD.out.mono ?_
        rintro e w3 ⟨rfl, hb3⟩
        have B4 := Lib.hid (B3.out.after hb3)
        have E4 := Lib.hid (E3.out.after hb3)
        have R4 := Lib.hid (R3.out.after hb3)
        have V4 := Lib.hid (V3.out.after hb3)
        have HB4 := Lib.hid (HB3.out.trans (hb3.mono HB3.out.size))
        have SZ4 : Hid (g0 + 3 ≤ w3.heap.size) := Lib.hid (by have := SZ3.out; have := hb3.size; omega)
        clear hb3 KD B3 E3 R3 V3 HB3 e30
        obtain ⟨fi, hfi⟩ : ∃ fi, fi = (findL es x.n).1 := ⟨_, rfl⟩
        obtain ⟨fb, hfb⟩ : ∃ fb, fb = (findL es x.n).2 := ⟨_, rfl⟩
        simp only
        rw [← hfi, ← hfb]
        have hz3 := hz2.out
        rw [← hfb] at hz3
        have HZ3 := Lib.hid hz3
        clear hfi hfb hz2 hz3
        cases fb with
        | true =>
          have hz : Hid (RI = (⟨0, 0, []⟩, 62)) := Lib.hid (by rw [HZ3.out, if_pos rfl])
          go_wp2_with ((with_reducible refine wpl_seg_store sizeI (.tmp 4) (.tmp 32) rfl rfl R4.out 0 [.int .i64 0, .int .i64 0, .slice none 0 0] rfl (Nat.le_refl _) ZO.out rfl rfl _ rfl ?_); intro w7 B7 g7 e7)
          refine bodyPost_ret (sret2 aggI sizeI rfl _ B7 (i := 0) (vs := [.int .i64 0, .int .i64 0, .slice none 0 0]) rfl rfl rfl) rfl ?_
          rw [hz.out]
          exact ⟨WithP.no 62 _ _ rfl, (HB4.out).grown g7 (HB4.out).size (fun k e => by cases e; have := HG0.out; omega)⟩
        | false =>
          have HZ4 := Lib.hid (HZ3.out.trans (if_neg (by simp)))
          have c42 : w3.cell? ⟨g0, 2, none⟩ = some (.slice A N c) := B4.out.cell 2
          by_cases h8 : N = 8
          · have hz : Hid (RI = (⟨0, 0, []⟩, 67)) := Lib.hid (by rw [HZ4.out, if_pos (by rw [HN.out]; exact h8)])
            subst h8
            go_wp2_with ((with_reducible refine wpl_seg_store sizeI (.tmp 4) (.tmp 37) rfl rfl R4.out 0 [.int .i64 0, .int .i64 0, .slice none 0 0] rfl (Nat.le_refl _) ZO.out rfl rfl _ rfl ?_); intro w7 B7 g7 e7)
            refine bodyPost_ret (sret2 aggI sizeI rfl _ B7 (i := 0) (vs := [.int .i64 0, .int .i64 0, .slice none 0 0]) rfl rfl rfl) rfl ?_
            rw [hz.out]
            exact ⟨WithP.no 67 _ _ rfl, (HB4.out).grown g7 (HB4.out).size (fun k e => by cases e; have := HG0.out; omega)⟩
          · have HZ := Lib.hid (HZ4.out.trans (if_neg (by rw [HN.out]; exact h8)))
            have h8' : ¬ ((N : Int) = 8) := by omega
            have h8b : ((N : Int) == 8) = false := by simpa using h8'
            have N4 := Lib.hid (Blk.new w3 24 [.int .i64 2, .int .i64 0, .slice none 0 0])
            have H4 := Lib.hid ((Below.refl w3.heap.size w3).alloc (Nat.le_refl _) (.cells #[.int .i64 2, .int .i64 0, .slice none 0 0] 24))
            obtain ⟨ti, hi, hzz, hs, hby⟩ := infoE'
            go_wp2_with fail
            obtain ⟨W4, hW4⟩ : ∃ W4, W4 = w3.alloc (.cells #[.int .i64 2, .int .i64 0, .slice none 0 0] 24) := ⟨_, rfl⟩
            rw [show w3.alloc (.cells [Value.int .i64 2, .int .i64 0, .slice none 0 0].toArray 24) = W4 from hW4.symm] at N4
            have Z4 : Hid (w3.heap.size + 1 ≤ W4.heap.size) := Lib.hid (by rw [hW4]; simp)
            rw [← hW4] at H4 ⊢
            obtain ⟨go, hgo⟩ : ∃ go, go = w3.heap.size := ⟨_, rfl⟩
            have HGO := Lib.hid hgo
            rw [← hgo] at N4 Z4 ⊢
            clear hW4 hgo c42 h8b h8' h8
            go_loopg [9, 10] N (fun g pv i wx => ∃ q m A' c' L put, (q : Nat) + g = N ∧ pv = .bool put ∧ i = .int .i64 (q : Nat) ∧ Hid (L.length = m) ∧ Hid (insP false es x = L ++ insP put (es.drop q) x) ∧ Hid (Blk wx (g0 + 1 + 1) 24 [.int .i64 0, .int .i64 0, .slice none 0 0]) ∧ Hid (Blk wx go 24 [.int .i64 2, .int .i64 0, .slice A' m c']) ∧ Hid (OwnE wx (go + 1) (.slice A' m c') L) ∧ Hid (Below w3.heap.size w3 wx) ∧ Hid (go + 1 ≤ wx.heap.size))
            case atStart => exact ⟨0, 0, none, 0, [], false, by omega, rfl, rfl, Lib.hid rfl, Lib.hid rfl, Lib.hid (R4.out.after H4.out), N4, Lib.hid (OwnE.nil _ _), H4, Z4⟩
            case round =>
              clear N4 H4 Z4
              obtain ⟨q, m, A', c', L, put, hq, rfl, rfl, hLm, hX, hB, hN, hO, hW, hZ⟩ := hrel
              have hmN : m ≤ N + 1 := by
                have h1 := insP_len x false es
                rw [hX.out, List.length_append, hLm.out, HN.out] at h1
                omega
              have x2 : wr.cell? ⟨g0, 2, none⟩ = some (.slice A N c) := (B4.out.after hW.out).cell 2
              cases gk with
              | zero =>
                obtain rfl : q = N := by omega
                have i4 : ¬ (q : Int) < (q : Int) := by omega
                clear hq
                cases put with
                | true =>
                  have hz := HZ.out
                  rw [hX.out, List.drop_eq_nil_of_le (by rw [HN.out]; exact Nat.le_refl _), show insP true [] x = [] from rfl, List.append_nil] at hz
                  have HZZ := Lib.hid hz
                  clear hz
                  go_wp2_with (first
                    | (with_reducible refine wpl_seg_load aggI sizeI (.tmp 8) rfl rfl hN.out 0 [.int .i64 2, .int .i64 0, .slice A' m c'] rfl rfl rfl ?_)
                    | ((with_reducible refine wpl_seg_store sizeI (.tmp 4) (.tmp 83) rfl rfl hB.out 0 [.int .i64 2, .int .i64 0, .slice A' m c'] rfl (Nat.le_refl _) (by simp [Value.oneCell']) rfl rfl _ rfl ?_); intro w10 B10 g10 e10))
                  refine bodyPost_ret (sret2 aggI sizeI rfl _ B10 (i := 0) (vs := [.int .i64 2, .int .i64 0, .slice A' m c']) rfl rfl rfl) rfl ?_
                  rw [HZZ.out]
                  have hl : L.length = m := hLm.out
                  have O10 : OwnE w10 (go + 1) (.slice A' m c') L := hO.out.grown (by have := SZ4.out; have := HGO.out; omega) g10
                  refine ⟨⟨A', c', by rw [hl]; rfl, ?_⟩, (HB4.out.trans (hW.out.mono HB4.out.size)).grown g10 (Nat.le_trans HB4.out.size hW.out.size) (fun k e => by cases e; have := HG0.out; omega)⟩
                  rw [hl]
                  exact O10.lower (by have := HGO.out; have := HB4.out.size; omega)
                | false =>
                  have hz := HZ.out
                  rw [hX.out, List.drop_eq_nil_of_le (by rw [HN.out]; exact Nat.le_refl _), show insP false [] x = [x] from rfl] at hz
                  have HZZ := Lib.hid hz
                  have OX := Lib.hid (hO.out.kept ((Below.refl wr.heap.size wr).alloc (Nat.le_refl _) (.cells #[.string x.n, .int .i64 x.i] 32)))
                  have DX : Hid (Row (wr.alloc (.cells #[.string x.n, .int .i64 x.i] 32)) (wr.heap.size + 1) (some ⟨wr.heap.size, 0, none⟩) (erows [x])) := Lib.hid (Row.new wr #[.string x.n, .int .i64 x.i] 32 (0, 0) wr.heap.size rfl (Nat.lt_succ_self _))
                  have ZX : Hid (go + 1 ≤ (wr.alloc (.cells #[.string x.n, .int .i64 x.i] 32)).heap.size) := Lib.hid (by have := hZ.out; simp; omega)
                  have NX := Lib.hid (hN.out.alloc (.cells #[.string x.n, .int .i64 x.i] 32))
                  have BX := Lib.hid (hB.out.alloc (.cells #[.string x.n, .int .i64 x.i] 32))
                  have WX := Lib.hid (hW.out.alloc hW.out.size (.cells #[.string x.n, .int .i64 x.i] 32))
                  have c5 : wr.cell? ⟨go, 2, none⟩ = some (.slice A' m c') := hN.out.cell 2
                  have e40 : wr.cell? ⟨g0 + 1, 0, none⟩ = some (.string x.n) := (E4.out.after hW.out).cell 0
                  have e41 : wr.cell? ⟨g0 + 1, 1, none⟩ = some (.int .i64 x.i) := (E4.out.after hW.out).cell 1
                  have hlo : ∀ q, (Value.slice A' m c').ownBlock = some q → go + 1 ≤ q := fun q e => (World.ownsRow.lt hO.out q e).1
                  have HLO := Lib.hid hlo
                  have hzx := ZX.out
                  have hm1 : m + 1 ≤ 100000 := by omega
                  clear hlo hz
                  go_wp2_with (first
                    | (at_builtin; (refine wpl_append_ents hi hzz rfl hs hby rfl (.tmp 78) (.tmp 80) rfl hLm.out rfl OX.out (some ⟨wr.heap.size, 0, none⟩) 1 1 [x] rfl rfl _ DX.out hm1 hzx (m + 1) rfl ?_); intro A5 c5' w5 O5 g5; have HO5 := Lib.hid O5; have HG5 := Lib.hid g5; have N5 := Lib.hid (NX.out.grown g5 (fun e => by have := HLO.out go e.symm; omega)); have c50 : w5.cell? ⟨go, 2, none⟩ = some (.slice A' m c') := N5.out.cell 2; have f50 := N5.out.free 2; have N6 := Lib.hid (show Blk (w5.setCell ⟨go, 2, none⟩ (.slice A5 (m + 1) c5')) go 24 [.int .i64 2, .int .i64 0, .slice A5 (m + 1) c5'] from N5.out.set 2 (.slice A5 (m + 1) c5')); have s6 := Lib.hid (show w5.grownBy (w5.setCell ⟨go, 2, none⟩ (.slice A5 (m + 1) c5')) (some go) from only_set w5 ⟨go, 2, none⟩ (.slice A5 (m + 1) c5')); have R6 := Lib.hid ((BX.out.grown HG5.out (fun e => by have := HLO.out _ e.symm; have := SZ4.out; have := HGO.out; omega)).grown s6.out (by simp only [ne_eq, Option.some.injEq]; have := SZ4.out; have := HGO.out; omega)); clear O5 g5)
                    | (with_reducible refine wpl_seg_load aggI sizeI (.tmp 8) rfl rfl N6.out 0 [.int .i64 2, .int .i64 0, .slice A5 (m + 1) c5'] rfl rfl rfl ?_)
                    | ((with_reducible refine wpl_seg_store sizeI (.tmp 4) (.tmp 83) rfl rfl R6.out 0 [.int .i64 2, .int .i64 0, .slice A5 (m + 1) c5'] rfl (Nat.le_refl _) (by simp [Value.oneCell']) rfl rfl _ rfl ?_); intro w10 B10 g10 e10))
                  refine bodyPost_ret (sret2 aggI sizeI rfl _ B10 (i := 0) (vs := [.int .i64 2, .int .i64 0, .slice A5 (m + 1) c5']) rfl rfl rfl) rfl ?_
                  rw [HZZ.out]
                  have hl : (L ++ [x]).length = m + 1 := by rw [List.length_append, hLm.out]; rfl
                  have O10 : OwnE w10 (go + 1) (.slice A5 (m + 1) c5') (L ++ [x]) := (HO5.out.grown (Nat.lt_succ_self go) s6.out).grown (by have := SZ4.out; have := HGO.out; omega) g10
                  have W6 := (WX.out.grown HG5.out WX.out.size fun q e => by have := HLO.out q e; have := HGO.out; omega).grown s6.out (Nat.le_trans WX.out.size HG5.out.size) fun q e => by cases e; have := HGO.out; omega
                  refine ⟨⟨A5, c5', by rw [hl]; rfl, ?_⟩, (HB4.out.trans (W6.mono HB4.out.size)).grown g10 (Nat.le_trans HB4.out.size W6.size) (fun k e => by cases e; have := HG0.out; omega)⟩
                  rw [hl]
                  exact O10.lower (by have := HGO.out; have := HB4.out.size; omega)
              | succ g =>
                have hlt : q < es.length := by rw [HN.out]; omega
                have i4 : (q : Int) < (N : Int) := by omega
                have HNX := Lib.hid (insP_next hlt put x)
                obtain ⟨a, rfl, _, hck⟩ := (V4.out.below hW.out).elem (atE_get hlt)
                obtain ⟨E, hE⟩ : ∃ E, atE es q = E := ⟨_, rfl⟩
                have KS0 : Hid (∀ w', Below w3.heap.size w3 w' → w'.cell? ⟨g0, 2, none⟩ = some (.slice (some a) N c) ∧ (∀ (j : Nat) u, ([.string E.n, .int .i64 E.i] : List Value)[j]? = some u → w'.cell? ((a.add (q * 2)).add j) = some u) ∧ w'.cell? ⟨g0 + 1, 0, none⟩ = some (.string x.n)) := Lib.hid fun w' hb => by
                  obtain ⟨a', e', _, hck⟩ := (V4.out.below hb).elem (atE_get hlt)
                  cases e'
                  rw [hE] at hck
                  exact ⟨(B4.out.after hb).cell 2, hck, (E4.out.after hb).cell 0⟩
                have KS := Lib.hid (fun w' hb => (⟨(KS0.out w' hb).1, (KS0.out w' hb).2.1⟩ : w'.cell? ⟨g0, 2, none⟩ = some (.slice (some a) N c) ∧ ∀ (j : Nat) u, ([.string E.n, .int .i64 E.i] : List Value)[j]? = some u → w'.cell? ((a.add (q * 2)).add j) = some u))
                rw [hE] at HNX
                clear hE hck
                have T0 := Lib.hid hW.out.drew
                have S15 := KS0.out _ T0.out
                cases put with
                | true =>
                  have hx := HNX.out
                  rw [if_neg (by simp)] at hx
                  have HX : Hid (insP false es x = (L ++ [E]) ++ insP true (es.drop (q + 1)) x) := Lib.hid (by rw [hX.out, hx, List.append_assoc]; rfl)
                  clear hx HNX
                  go_wp2_with fail
                  clear x2
                  refine wp_region_held_drew (S := (fun w' => w'.cell? ⟨g0, 2, none⟩ = some (.slice (some a) N c) ∧ (∀ (j : Nat) u, ([.string E.n, .int .i64 E.i] : List Value)[j]? = some u → w'.cell? ((a.add (q * 2)).add j) = some u) ∧ w'.cell? ⟨g0 + 1, 0, none⟩ = some (.string x.n))) (by kernel_rfl) S15 (fun _ => ?_)
                  refine wpAnyH_take (i := 0) (v := .bool true) rfl (by kernel_rfl) (by kernel_rfl) (by kernel_rfl) (fun _ _ _ h => h) (Or.inl ⟨by kernel_rfl, fun w _ => by go_simp⟩) S15 ?_
                  simp only [Act.put, List.getElem_toArray, List.getElem_cons_zero, List.setIfInBounds_toArray, List.set_cons_zero, List.set_cons_succ]
                  refine wpAnyH_take (i := 1) (v := .bool false) rfl (by kernel_rfl) (by kernel_rfl) (by kernel_rfl) (fun _ _ _ h => h) (Or.inl ⟨by kernel_rfl, fun w _ => by go_simp⟩) S15 ?_
                  simp only [Act.put, List.getElem_toArray, List.getElem_cons_zero, List.getElem_cons_succ, List.setIfInBounds_toArray, List.set_cons_zero, List.set_cons_succ]
                  refine wpAnyH_take (i := 2) (v := .bool false) rfl (by kernel_rfl) (by kernel_rfl) (by kernel_rfl) (fun _ _ _ h => h) (Or.inl ⟨by kernel_rfl, fun w _ => by go_simp⟩) S15 ?_
                  simp only [Act.put, List.getElem_toArray, List.getElem_cons_zero, List.getElem_cons_succ, List.setIfInBounds_toArray, List.set_cons_zero, List.set_cons_succ]
                  refine wpAnyH_take (i := 3) (v := undef) rfl (by kernel_rfl) (by kernel_rfl) (by kernel_rfl) (fun _ _ _ h => h) (Or.inr ⟨by kernel_rfl, rfl⟩) S15 ?_
                  simp only [Act.put, List.getElem_toArray, List.getElem_cons_zero, List.getElem_cons_succ, List.setIfInBounds_toArray, List.set_cons_zero, List.set_cons_succ]
                  refine wpAnyH_take (i := 4) (v := undef) rfl (by kernel_rfl) (by kernel_rfl) (by kernel_rfl) (fun _ _ _ h => h) (Or.inr ⟨by kernel_rfl, rfl⟩) S15 ?_
                  simp only [Act.put, List.getElem_toArray, List.getElem_cons_zero, List.getElem_cons_succ, List.setIfInBounds_toArray, List.set_cons_zero, List.set_cons_succ]
                  refine wpAnyH_take (i := 5) (v := undef) rfl (by kernel_rfl) (by kernel_rfl) (by kernel_rfl) (fun _ _ _ h => h) (Or.inr ⟨by kernel_rfl, rfl⟩) S15 ?_
                  simp only [Act.put, List.getElem_toArray, List.getElem_cons_zero, List.getElem_cons_succ, List.setIfInBounds_toArray, List.set_cons_zero, List.set_cons_succ]
                  refine wpAnyH_take (i := 6) (v := undef) rfl (by kernel_rfl) (by kernel_rfl) (by kernel_rfl) (fun _ _ _ h => h) (Or.inr ⟨by kernel_rfl, rfl⟩) S15 ?_
                  simp only [Act.put, List.getElem_toArray, List.getElem_cons_zero, List.getElem_cons_succ, List.setIfInBounds_toArray, List.set_cons_zero, List.set_cons_succ]
                  refine wpAnyH_take (i := 7) (v := undef) rfl (by kernel_rfl) (by kernel_rfl) (by kernel_rfl) (fun _ _ _ h => h) (Or.inr ⟨by kernel_rfl, rfl⟩) S15 ?_
                  simp only [Act.put, List.getElem_toArray, List.getElem_cons_zero, List.getElem_cons_succ, List.setIfInBounds_toArray, List.set_cons_zero, List.set_cons_succ]
                  refine wpAnyH_take (i := 8) (v := undef) rfl (by kernel_rfl) (by kernel_rfl) (by kernel_rfl) (fun _ _ _ h => h) (Or.inr ⟨by kernel_rfl, rfl⟩) S15 ?_
                  simp only [Act.put, List.getElem_toArray, List.getElem_cons_zero, List.getElem_cons_succ, List.setIfInBounds_toArray, List.set_cons_zero, List.set_cons_succ]
                  refine wpAnyH_take (i := 9) (v := undef) rfl (by kernel_rfl) (by kernel_rfl) (by kernel_rfl) (fun _ _ _ h => h) (Or.inr ⟨by kernel_rfl, rfl⟩) S15 ?_
                  simp only [Act.put, List.getElem_toArray, List.getElem_cons_zero, List.getElem_cons_succ, List.setIfInBounds_toArray, List.set_cons_zero, List.set_cons_succ]
                  refine wpAnyH_take (i := 10) (v := undef) rfl (by kernel_rfl) (by kernel_rfl) (by kernel_rfl) (fun _ _ _ h => h) (Or.inr ⟨by kernel_rfl, rfl⟩) S15 ?_
                  simp only [Act.put, List.getElem_toArray, List.getElem_cons_zero, List.getElem_cons_succ, List.setIfInBounds_toArray, List.set_cons_zero, List.set_cons_succ]
                  refine wpAnyH_take (i := 11) (v := undef) rfl (by kernel_rfl) (by kernel_rfl) (by kernel_rfl) (fun _ _ _ h => h) (Or.inr ⟨by kernel_rfl, rfl⟩) S15 ?_
                  simp only [Act.put, List.getElem_toArray, List.getElem_cons_zero, List.getElem_cons_succ, List.setIfInBounds_toArray, List.set_cons_zero, List.set_cons_succ]
                  refine wpAnyH_take (i := 12) (v := .bool false) rfl (by kernel_rfl) (by kernel_rfl) (by kernel_rfl) (fun _ _ _ h => h) (Or.inl ⟨by kernel_rfl, fun w _ => by go_simp⟩) S15 ?_
                  simp only [Act.put, List.getElem_toArray, List.getElem_cons_zero, List.getElem_cons_succ, List.setIfInBounds_toArray, List.set_cons_zero, List.set_cons_succ]
                  refine wpAnyH_done (by kernel_rfl) ?_ _
                  go_simp
                  have hB : Hid (Blk wr.drew (g0 + 1 + 1) 24 [.int .i64 0, .int .i64 0, .slice none 0 0]) := Lib.hid hB.out.drew
                  have hN : Hid (Blk wr.drew go 24 [.int .i64 2, .int .i64 0, .slice A' m c']) := Lib.hid hN.out.drew
                  have hO : Hid (OwnE wr.drew (go + 1) (.slice A' m c') L) := Lib.hid (hO.out.kept (Below.refl _ _).drew)
                  have hZ : Hid (go + 1 ≤ wr.drew.heap.size) := Lib.hid hZ.out
                  have hW := T0
                  clear S15 T0
                  generalize wr.drew = wr at hB hN hO hZ hW ⊢
                  have c5 : wr.cell? ⟨go, 2, none⟩ = some (.slice A' m c') := hN.out.cell 2
                  have T1 := Lib.hid hW.out.drew
                  have S1 := KS.out _ T1.out
                  go_wp2_with fail
                  refine wp_region_held_drew (S := (fun w' => w'.cell? ⟨g0, 2, none⟩ = some (.slice (some a) N c) ∧ ∀ (j : Nat) u, ([.string E.n, .int .i64 E.i] : List Value)[j]? = some u → w'.cell? ((a.add (q * 2)).add j) = some u)) (by kernel_rfl) S1 (fun _ => ?_)
                  refine wpAnyH_take (i := 0) (v := .pointer (some ⟨go, 2, none⟩)) rfl (by kernel_rfl) (by kernel_rfl) (by kernel_rfl) (fun _ _ _ h => h) (Or.inl ⟨by kernel_rfl, fun w _ => by go_simp⟩) S1 ?_
                  simp only [Act.put, List.getElem_toArray, List.getElem_cons_zero, List.setIfInBounds_toArray, List.set_cons_zero, List.set_cons_succ]
                  refine wpAnyH_take (i := 2) (v := .pointer (some ⟨g0, 2, none⟩)) rfl (by kernel_rfl) (by kernel_rfl) (by kernel_rfl) (fun _ _ _ h => h) (Or.inl ⟨by kernel_rfl, fun w _ => by go_simp⟩) S1 ?_
                  simp only [Act.put, List.getElem_toArray, List.getElem_cons_zero, List.getElem_cons_succ, List.setIfInBounds_toArray, List.set_cons_zero, List.set_cons_succ]
                  refine wpAnyH_take (i := 3) (v := .slice (some a) N c) rfl (by kernel_rfl) (by kernel_rfl) (by kernel_rfl) (fun _ _ _ h => h) (yields_one (ty := 22) (fun w => by kernel_rfl) (.tmp 67) (by kernel_rfl) (by kernel_rfl) (by kernel_rfl) (fun w h => h.1)) S1 ?_
                  simp only [Act.put, List.getElem_toArray, List.getElem_cons_zero, List.getElem_cons_succ, List.setIfInBounds_toArray, List.set_cons_zero, List.set_cons_succ]
                  refine wpAnyH_take (i := 4) (v := .int .i64 (q : Int)) rfl (by kernel_rfl) (by kernel_rfl) (by kernel_rfl) (fun _ _ _ h => h) (Or.inl ⟨by kernel_rfl, fun w _ => by go_simp⟩) S1 ?_
                  simp only [Act.put, List.getElem_toArray, List.getElem_cons_zero, List.getElem_cons_succ, List.setIfInBounds_toArray, List.set_cons_zero, List.set_cons_succ]
                  refine wpAnyH_take (i := 5) (v := .pointer (some (a.add (q * 2)))) rfl (by kernel_rfl) (by kernel_rfl) (by kernel_rfl) (fun _ _ _ h => h) (Or.inl ⟨by kernel_rfl, fun w _ => by go_simp⟩) S1 ?_
                  simp only [Act.put, List.getElem_toArray, List.getElem_cons_zero, List.getElem_cons_succ, List.setIfInBounds_toArray, List.set_cons_zero, List.set_cons_succ]
                  refine wpAnyH_take (i := 6) (v := .agg #[.string E.n, .int .i64 E.i]) rfl (by kernel_rfl) (by kernel_rfl) (by kernel_rfl) (fun _ _ _ h => h) (yields_cells (q := a.add (q * 2)) (row := [.string E.n, .int .i64 E.i]) aggE sizeE (.tmp 70) (by kernel_rfl) (by kernel_rfl) (by kernel_rfl) rfl (fun w h => h.2)) S1 ?_
                  simp only [Act.put, List.getElem_toArray, List.getElem_cons_zero, List.getElem_cons_succ, List.setIfInBounds_toArray, List.set_cons_zero, List.set_cons_succ]
                  refine wpAnyH_ready (rs := [1, 7]) (by kernel_rfl) (by simp) (AllReadyH.cons rfl (fun K hK => ?_) (AllReadyH.cons rfl (fun K hK => ?_) AllReadyH.nil))
                  · go_simp
                    refine hK _ _ S1 (fun _ => ?_)
                    clear hK K
                    refine wpAnyH_ready (rs := [7]) (by kernel_rfl) (by simp) (AllReadyH.cons rfl (fun K hK => ?_) AllReadyH.nil)
                    go_simp
                    have T2 := Lib.hid ((hW.out.alloc hW.out.size (.cells #[.string E.n, .int .i64 E.i] 32)).drew)
                    have O2 : Hid (OwnE (wr.alloc (.cells #[.string E.n, .int .i64 E.i] 32)).drew (go + 1) (.slice A' m c') L) := Lib.hid (hO.out.kept (((Below.refl wr.heap.size wr).alloc (Nat.le_refl _) (.cells #[.string E.n, .int .i64 E.i] 32)).drew))
                    have B2 : Hid (Blk (wr.alloc (.cells #[.string E.n, .int .i64 E.i] 32)).drew (g0 + 1 + 1) 24 [.int .i64 0, .int .i64 0, .slice none 0 0]) := Lib.hid (hB.out.alloc (.cells #[.string E.n, .int .i64 E.i] 32))
                    have N2 : Hid (Blk (wr.alloc (.cells #[.string E.n, .int .i64 E.i] 32)).drew go 24 [.int .i64 2, .int .i64 0, .slice A' m c']) := Lib.hid (hN.out.alloc (.cells #[.string E.n, .int .i64 E.i] 32))
                    have D2 : Hid (Row (wr.alloc (.cells #[.string E.n, .int .i64 E.i] 32)).drew (wr.heap.size + 1) (some ⟨wr.heap.size, 0, none⟩) (erows [E])) := Lib.hid (Row.new wr #[.string E.n, .int .i64 E.i] 32 (0, 0) wr.heap.size rfl (Nat.lt_succ_self _))
                    have Z2 : Hid (go + 1 ≤ (wr.alloc (.cells #[.string E.n, .int .i64 E.i] 32)).drew.heap.size) := Lib.hid (Nat.le_trans hZ.out (by simp))
                    have S2 := KS.out _ T2.out
                    obtain ⟨W2, hW2⟩ : ∃ W2, W2 = (wr.alloc (.cells #[.string E.n, .int .i64 E.i] 32)).drew := ⟨_, rfl⟩
                    rw [← hW2] at T2 O2 B2 N2 D2 Z2 S2 ⊢
                    obtain ⟨gx, hgx⟩ : ∃ gx, wr.heap.size = gx := ⟨_, rfl⟩
                    rw [hgx] at D2 ⊢
                    clear hW2 hgx
                    refine hK _ _ S2 (fun _ => ?_)
                    clear hK K
                    refine wpAnyH_ready (rs := [8]) (by kernel_rfl) (by simp) (AllReadyH.cons rfl (fun K hK => ?_) AllReadyH.nil)
                    refine step_append_ents hi hzz rfl hs hby (by kernel_rfl) (.tmp 66) (.tmp 72) (by kernel_rfl) hLm.out (by kernel_rfl) O2.out ⟨gx, 0, none⟩ 1 1 [E] rfl (by kernel_rfl) _ D2.out (by omega) Z2.out (m + 1) rfl ?_
                    intro A9 c9 w9 O9 g9
                    have hlo : ∀ q, (Value.slice A' m c').ownBlock = some q → go + 1 ≤ q := fun q e => (World.ownsRow.lt O2.out q e).1
                    have HO9 := Lib.hid O9
                    have B9 := Lib.hid (B2.out.grown g9 (fun e => by have := hlo (g0 + 1 + 1) e.symm; have := SZ4.out; have := HGO.out; omega))
                    have N9 := Lib.hid (N2.out.grown g9 (fun e => by have := hlo go e.symm; omega))
                    have H9 := Lib.hid (T2.out.grown g9 T2.out.size fun q e => by have := hlo q e; have := HGO.out; omega)
                    have Z9 := Lib.hid (Nat.le_trans Z2.out g9.size)
                    have S9 := KS.out _ H9.out
                    have c9x : w9.cell? ⟨go, 2, none⟩ = some (.slice A' m c') := N9.out.cell 2
                    have f9x := N9.out.free 2
                    clear O9 g9 hlo O2 B2 N2 D2 T2 Z2
                    refine hK _ _ S9 (fun _ => ?_)
                    clear hK K
                    refine wpAnyH_take (i := 9) (v := .pointer (some ⟨go, 2, none⟩)) rfl (by kernel_rfl) (by kernel_rfl) (by kernel_rfl) (fun _ _ _ h => h) (Or.inl ⟨by kernel_rfl, fun w _ => by go_simp⟩) S9 ?_
                    simp only [Act.put, List.getElem_toArray, List.getElem_cons_zero, List.getElem_cons_succ, List.setIfInBounds_toArray, List.set_cons_zero, List.set_cons_succ]
                    refine wpAnyH_ready (rs := [10]) (by kernel_rfl) (by simp) (AllReadyH.cons rfl (fun K hK => ?_) AllReadyH.nil)
                    go_simp
                    have s10 : w9.grownBy (w9.setCell ⟨go, 2, none⟩ (.slice A9 (m + 1) c9)) (some go) := only_set w9 ⟨go, 2, none⟩ (.slice A9 (m + 1) c9)
                    have N10 : Hid (Blk (w9.setCell ⟨go, 2, none⟩ (.slice A9 (m + 1) c9)) go 24 [.int .i64 2, .int .i64 0, .slice A9 (m + 1) c9]) := Lib.hid (N9.out.set 2 (.slice A9 (m + 1) c9))
                    have B10 := Lib.hid (B9.out.grown s10 (by simp only [ne_eq, Option.some.injEq]; have := SZ4.out; have := HGO.out; omega))
                    have O10 := Lib.hid (HO9.out.grown (by omega) s10)
                    have H10 := Lib.hid (H9.out.grown s10 H9.out.size fun q e => by cases e; have := HGO.out; omega)
                    have Z10 := Lib.hid (Nat.le_trans Z9.out s10.size)
                    have S10 := KS.out _ H10.out
                    refine hK _ _ S10 (fun _ => ?_)
                    clear hK K
                    refine wpAnyH_done (by kernel_rfl) ?_ _
                    generalize w9.setCell ⟨go, 2, none⟩ (.slice A9 (m + 1) c9) = W10 at N10 B10 O10 H10 Z10 ⊢
                    clear S10 S9 S1 s10 c9x f9x N9 B9 HO9 H9 Z9
                    go_wp2_with fail
                    go_roundg g
                    case measure => omega
                    case rel => exact ⟨q + 1, m + 1, A9, c9, _, true, by omega, rfl, by go_num, Lib.hid (by rw [List.length_append, hLm.out]; rfl), HX, B10, N10, O10, H10, Z10⟩
                  · go_simp
                    have T2 := Lib.hid ((hW.out.alloc hW.out.size (.cells #[.string E.n, .int .i64 E.i] 32)).drew)
                    have O2 : Hid (OwnE (wr.alloc (.cells #[.string E.n, .int .i64 E.i] 32)).drew (go + 1) (.slice A' m c') L) := Lib.hid (hO.out.kept (((Below.refl wr.heap.size wr).alloc (Nat.le_refl _) (.cells #[.string E.n, .int .i64 E.i] 32)).drew))
                    have B2 : Hid (Blk (wr.alloc (.cells #[.string E.n, .int .i64 E.i] 32)).drew (g0 + 1 + 1) 24 [.int .i64 0, .int .i64 0, .slice none 0 0]) := Lib.hid (hB.out.alloc (.cells #[.string E.n, .int .i64 E.i] 32))
                    have N2 : Hid (Blk (wr.alloc (.cells #[.string E.n, .int .i64 E.i] 32)).drew go 24 [.int .i64 2, .int .i64 0, .slice A' m c']) := Lib.hid (hN.out.alloc (.cells #[.string E.n, .int .i64 E.i] 32))
                    have D2 : Hid (Row (wr.alloc (.cells #[.string E.n, .int .i64 E.i] 32)).drew (wr.heap.size + 1) (some ⟨wr.heap.size, 0, none⟩) (erows [E])) := Lib.hid (Row.new wr #[.string E.n, .int .i64 E.i] 32 (0, 0) wr.heap.size rfl (Nat.lt_succ_self _))
                    have Z2 : Hid (go + 1 ≤ (wr.alloc (.cells #[.string E.n, .int .i64 E.i] 32)).drew.heap.size) := Lib.hid (Nat.le_trans hZ.out (by simp))
                    have S2 := KS.out _ T2.out
                    obtain ⟨W2, hW2⟩ : ∃ W2, W2 = (wr.alloc (.cells #[.string E.n, .int .i64 E.i] 32)).drew := ⟨_, rfl⟩
                    rw [← hW2] at T2 O2 B2 N2 D2 Z2 S2 ⊢
                    obtain ⟨gx, hgx⟩ : ∃ gx, wr.heap.size = gx := ⟨_, rfl⟩
                    rw [hgx] at D2 ⊢
                    clear hW2 hgx
                    refine hK _ _ S2 (fun _ => ?_)
                    clear hK K
                    have c52 : W2.cell? ⟨go, 2, none⟩ = some (.slice A' m c') := N2.out.cell 2
                    refine wpAnyH_ready (rs := [1]) (by kernel_rfl) (by simp) (AllReadyH.cons rfl (fun K hK => ?_) AllReadyH.nil)
                    go_simp
                    refine hK _ _ S2 (fun _ => ?_)
                    clear hK K
                    refine wpAnyH_ready (rs := [8]) (by kernel_rfl) (by simp) (AllReadyH.cons rfl (fun K hK => ?_) AllReadyH.nil)
                    refine step_append_ents hi hzz rfl hs hby (by kernel_rfl) (.tmp 66) (.tmp 72) (by kernel_rfl) hLm.out (by kernel_rfl) O2.out ⟨gx, 0, none⟩ 1 1 [E] rfl (by kernel_rfl) _ D2.out (by omega) Z2.out (m + 1) rfl ?_
                    intro A9 c9 w9 O9 g9
                    have hlo : ∀ q, (Value.slice A' m c').ownBlock = some q → go + 1 ≤ q := fun q e => (World.ownsRow.lt O2.out q e).1
                    have HO9 := Lib.hid O9
                    have B9 := Lib.hid (B2.out.grown g9 (fun e => by have := hlo (g0 + 1 + 1) e.symm; have := SZ4.out; have := HGO.out; omega))
                    have N9 := Lib.hid (N2.out.grown g9 (fun e => by have := hlo go e.symm; omega))
                    have H9 := Lib.hid (T2.out.grown g9 T2.out.size fun q e => by have := hlo q e; have := HGO.out; omega)
                    have Z9 := Lib.hid (Nat.le_trans Z2.out g9.size)
                    have S9 := KS.out _ H9.out
                    have c9x : w9.cell? ⟨go, 2, none⟩ = some (.slice A' m c') := N9.out.cell 2
                    have f9x := N9.out.free 2
                    clear O9 g9 hlo O2 B2 N2 D2 T2 Z2
                    refine hK _ _ S9 (fun _ => ?_)
                    clear hK K
                    refine wpAnyH_take (i := 9) (v := .pointer (some ⟨go, 2, none⟩)) rfl (by kernel_rfl) (by kernel_rfl) (by kernel_rfl) (fun _ _ _ h => h) (Or.inl ⟨by kernel_rfl, fun w _ => by go_simp⟩) S9 ?_
                    simp only [Act.put, List.getElem_toArray, List.getElem_cons_zero, List.getElem_cons_succ, List.setIfInBounds_toArray, List.set_cons_zero, List.set_cons_succ]
                    refine wpAnyH_ready (rs := [10]) (by kernel_rfl) (by simp) (AllReadyH.cons rfl (fun K hK => ?_) AllReadyH.nil)
                    go_simp
                    have s10 : w9.grownBy (w9.setCell ⟨go, 2, none⟩ (.slice A9 (m + 1) c9)) (some go) := only_set w9 ⟨go, 2, none⟩ (.slice A9 (m + 1) c9)
                    have N10 : Hid (Blk (w9.setCell ⟨go, 2, none⟩ (.slice A9 (m + 1) c9)) go 24 [.int .i64 2, .int .i64 0, .slice A9 (m + 1) c9]) := Lib.hid (N9.out.set 2 (.slice A9 (m + 1) c9))
                    have B10 := Lib.hid (B9.out.grown s10 (by simp only [ne_eq, Option.some.injEq]; have := SZ4.out; have := HGO.out; omega))
                    have O10 := Lib.hid (HO9.out.grown (by omega) s10)
                    have H10 := Lib.hid (H9.out.grown s10 H9.out.size fun q e => by cases e; have := HGO.out; omega)
                    have Z10 := Lib.hid (Nat.le_trans Z9.out s10.size)
                    have S10 := KS.out _ H10.out
                    refine hK _ _ S10 (fun _ => ?_)
                    clear hK K
                    refine wpAnyH_done (by kernel_rfl) ?_ _
                    generalize w9.setCell ⟨go, 2, none⟩ (.slice A9 (m + 1) c9) = W10 at N10 B10 O10 H10 Z10 ⊢
                    clear S10 S9 S1 s10 c9x f9x N9 B9 HO9 H9 Z9
                    go_wp2_with fail
                    go_roundg g
                    case measure => omega
                    case rel => exact ⟨q + 1, m + 1, A9, c9, _, true, by omega, rfl, by go_num, Lib.hid (by rw [List.length_append, hLm.out]; rfl), HX, B10, N10, O10, H10, Z10⟩
                | false =>
                  obtain ⟨lb, hlb⟩ : ∃ lb, lb = less x.n E.n := ⟨_, rfl⟩
                  have hl' : (!Op.bytesLess E.n.toList x.n.toList && !E.n.toList == x.n.toList) = lb := (gtr_less _ _).trans hlb.symm
                  rw [← hlb] at HNX
                  clear hlb
                  go_wp2_with fail
                  clear x2
                  refine wp_region_held_drew (S := (fun w' => w'.cell? ⟨g0, 2, none⟩ = some (.slice (some a) N c) ∧ (∀ (j : Nat) u, ([.string E.n, .int .i64 E.i] : List Value)[j]? = some u → w'.cell? ((a.add (q * 2)).add j) = some u) ∧ w'.cell? ⟨g0 + 1, 0, none⟩ = some (.string x.n))) (by kernel_rfl) S15 (fun _ => ?_)
                  refine wpAnyH_take (i := 0) (v := .bool false) rfl (by kernel_rfl) (by kernel_rfl) (by kernel_rfl) (fun _ _ _ h => h) (Or.inl ⟨by kernel_rfl, fun w _ => by go_simp⟩) S15 ?_
                  simp only [Act.put, List.getElem_toArray, List.getElem_cons_zero, List.setIfInBounds_toArray, List.set_cons_zero, List.set_cons_succ]
                  refine wpAnyH_take (i := 1) (v := .bool true) rfl (by kernel_rfl) (by kernel_rfl) (by kernel_rfl) (fun _ _ _ h => h) (Or.inl ⟨by kernel_rfl, fun w _ => by go_simp⟩) S15 ?_
                  simp only [Act.put, List.getElem_toArray, List.getElem_cons_zero, List.getElem_cons_succ, List.setIfInBounds_toArray, List.set_cons_zero, List.set_cons_succ]
                  refine wpAnyH_take (i := 2) (v := .bool true) rfl (by kernel_rfl) (by kernel_rfl) (by kernel_rfl) (fun _ _ _ h => h) (Or.inl ⟨by kernel_rfl, fun w _ => by go_simp⟩) S15 ?_
                  simp only [Act.put, List.getElem_toArray, List.getElem_cons_zero, List.getElem_cons_succ, List.setIfInBounds_toArray, List.set_cons_zero, List.set_cons_succ]
                  refine wpAnyH_take (i := 3) (v := .pointer (some ⟨g0, 2, none⟩)) rfl (by kernel_rfl) (by kernel_rfl) (by kernel_rfl) (fun _ _ _ h => h) (Or.inl ⟨by kernel_rfl, fun w _ => by go_simp⟩) S15 ?_
                  simp only [Act.put, List.getElem_toArray, List.getElem_cons_zero, List.getElem_cons_succ, List.setIfInBounds_toArray, List.set_cons_zero, List.set_cons_succ]
                  refine wpAnyH_take (i := 4) (v := .slice (some a) N c) rfl (by kernel_rfl) (by kernel_rfl) (by kernel_rfl) (fun _ _ _ h => h) (yields_one (ty := 22) (fun w => by kernel_rfl) (.tmp 49) (by kernel_rfl) (by kernel_rfl) (by kernel_rfl) (fun w h => h.1)) S15 ?_
                  simp only [Act.put, List.getElem_toArray, List.getElem_cons_zero, List.getElem_cons_succ, List.setIfInBounds_toArray, List.set_cons_zero, List.set_cons_succ]
                  refine wpAnyH_take (i := 5) (v := .int .i64 (q : Int)) rfl (by kernel_rfl) (by kernel_rfl) (by kernel_rfl) (fun _ _ _ h => h) (Or.inl ⟨by kernel_rfl, fun w _ => by go_simp⟩) S15 ?_
                  simp only [Act.put, List.getElem_toArray, List.getElem_cons_zero, List.getElem_cons_succ, List.setIfInBounds_toArray, List.set_cons_zero, List.set_cons_succ]
                  refine wpAnyH_take (i := 6) (v := .pointer (some (a.add (q * 2)))) rfl (by kernel_rfl) (by kernel_rfl) (by kernel_rfl) (fun _ _ _ h => h) (Or.inl ⟨by kernel_rfl, fun w _ => by go_simp⟩) S15 ?_
                  simp only [Act.put, List.getElem_toArray, List.getElem_cons_zero, List.getElem_cons_succ, List.setIfInBounds_toArray, List.set_cons_zero, List.set_cons_succ]
                  refine wpAnyH_take (i := 7) (v := .pointer (some (a.add (q * 2)))) rfl (by kernel_rfl) (by kernel_rfl) (by kernel_rfl) (fun _ _ _ h => h) (Or.inl ⟨by kernel_rfl, fun w _ => by go_simp⟩) S15 ?_
                  simp only [Act.put, List.getElem_toArray, List.getElem_cons_zero, List.getElem_cons_succ, List.setIfInBounds_toArray, List.set_cons_zero, List.set_cons_succ]
                  refine wpAnyH_take (i := 8) (v := .string E.n) rfl (by kernel_rfl) (by kernel_rfl) (by kernel_rfl) (fun _ _ _ h => h) (yields_one (ty := 9) (fun w => by kernel_rfl) (.tmp 53) (by kernel_rfl) (by kernel_rfl) (by kernel_rfl) (fun w h => first_cell (h.2.1 0 _ rfl))) S15 ?_
                  simp only [Act.put, List.getElem_toArray, List.getElem_cons_zero, List.getElem_cons_succ, List.setIfInBounds_toArray, List.set_cons_zero, List.set_cons_succ]
                  refine wpAnyH_take (i := 9) (v := .pointer (some ⟨g0 + 1, 0, none⟩)) rfl (by kernel_rfl) (by kernel_rfl) (by kernel_rfl) (fun _ _ _ h => h) (Or.inl ⟨by kernel_rfl, fun w _ => by go_simp⟩) S15 ?_
                  simp only [Act.put, List.getElem_toArray, List.getElem_cons_zero, List.getElem_cons_succ, List.setIfInBounds_toArray, List.set_cons_zero, List.set_cons_succ]
                  refine wpAnyH_take (i := 10) (v := .string x.n) rfl (by kernel_rfl) (by kernel_rfl) (by kernel_rfl) (fun _ _ _ h => h) (yields_one (ty := 9) (fun w => by kernel_rfl) (.tmp 55) (by kernel_rfl) (by kernel_rfl) (by kernel_rfl) (fun w h => h.2.2)) S15 ?_
                  simp only [Act.put, List.getElem_toArray, List.getElem_cons_zero, List.getElem_cons_succ, List.setIfInBounds_toArray, List.set_cons_zero, List.set_cons_succ]
                  refine wpAnyH_take (i := 11) (v := .bool lb) rfl (by kernel_rfl) (by kernel_rfl) (by kernel_rfl) (fun _ _ _ h => h) (Or.inl ⟨by kernel_rfl, fun w _ => by go_simp⟩) S15 ?_
                  simp only [Act.put, List.getElem_toArray, List.getElem_cons_zero, List.getElem_cons_succ, List.setIfInBounds_toArray, List.set_cons_zero, List.set_cons_succ]
                  refine wpAnyH_take (i := 12) (v := .bool lb) rfl (by kernel_rfl) (by kernel_rfl) (by kernel_rfl) (fun _ _ _ h => h) (Or.inl ⟨by kernel_rfl, fun w _ => by go_simp⟩) S15 ?_
                  simp only [Act.put, List.getElem_toArray, List.getElem_cons_zero, List.getElem_cons_succ, List.setIfInBounds_toArray, List.set_cons_zero, List.set_cons_succ]
                  refine wpAnyH_done (by kernel_rfl) ?_ _
                  go_simp
                  have hB : Hid (Blk wr.drew (g0 + 1 + 1) 24 [.int .i64 0, .int .i64 0, .slice none 0 0]) := Lib.hid hB.out.drew
                  have hN : Hid (Blk wr.drew go 24 [.int .i64 2, .int .i64 0, .slice A' m c']) := Lib.hid hN.out.drew
                  have hO : Hid (OwnE wr.drew (go + 1) (.slice A' m c') L) := Lib.hid (hO.out.kept (Below.refl _ _).drew)
                  have hZ : Hid (go + 1 ≤ wr.drew.heap.size) := Lib.hid hZ.out
                  have hW := T0
                  clear S15 T0
                  generalize wr.drew = wr at hB hN hO hZ hW ⊢
                  clear hl'
                  cases lb with
                  | false =>
                    have hx := HNX.out
                    rw [if_neg (by simp)] at hx
                    have HX : Hid (insP false es x = (L ++ [E]) ++ insP false (es.drop (q + 1)) x) := Lib.hid (by rw [hX.out, hx, List.append_assoc]; rfl)
                    clear hx HNX
                    have c5 : wr.cell? ⟨go, 2, none⟩ = some (.slice A' m c') := hN.out.cell 2
                    have T1 := Lib.hid hW.out.drew
                    have S1 := KS.out _ T1.out
                    go_wp2_with fail
                    refine wp_region_held_drew (S := (fun w' => w'.cell? ⟨g0, 2, none⟩ = some (.slice (some a) N c) ∧ ∀ (j : Nat) u, ([.string E.n, .int .i64 E.i] : List Value)[j]? = some u → w'.cell? ((a.add (q * 2)).add j) = some u)) (by kernel_rfl) S1 (fun _ => ?_)
                    refine wpAnyH_take (i := 0) (v := .pointer (some ⟨go, 2, none⟩)) rfl (by kernel_rfl) (by kernel_rfl) (by kernel_rfl) (fun _ _ _ h => h) (Or.inl ⟨by kernel_rfl, fun w _ => by go_simp⟩) S1 ?_
                    simp only [Act.put, List.getElem_toArray, List.getElem_cons_zero, List.setIfInBounds_toArray, List.set_cons_zero, List.set_cons_succ]
                    refine wpAnyH_take (i := 2) (v := .pointer (some ⟨g0, 2, none⟩)) rfl (by kernel_rfl) (by kernel_rfl) (by kernel_rfl) (fun _ _ _ h => h) (Or.inl ⟨by kernel_rfl, fun w _ => by go_simp⟩) S1 ?_
                    simp only [Act.put, List.getElem_toArray, List.getElem_cons_zero, List.getElem_cons_succ, List.setIfInBounds_toArray, List.set_cons_zero, List.set_cons_succ]
                    refine wpAnyH_take (i := 3) (v := .slice (some a) N c) rfl (by kernel_rfl) (by kernel_rfl) (by kernel_rfl) (fun _ _ _ h => h) (yields_one (ty := 22) (fun w => by kernel_rfl) (.tmp 67) (by kernel_rfl) (by kernel_rfl) (by kernel_rfl) (fun w h => h.1)) S1 ?_
                    simp only [Act.put, List.getElem_toArray, List.getElem_cons_zero, List.getElem_cons_succ, List.setIfInBounds_toArray, List.set_cons_zero, List.set_cons_succ]
                    refine wpAnyH_take (i := 4) (v := .int .i64 (q : Int)) rfl (by kernel_rfl) (by kernel_rfl) (by kernel_rfl) (fun _ _ _ h => h) (Or.inl ⟨by kernel_rfl, fun w _ => by go_simp⟩) S1 ?_
                    simp only [Act.put, List.getElem_toArray, List.getElem_cons_zero, List.getElem_cons_succ, List.setIfInBounds_toArray, List.set_cons_zero, List.set_cons_succ]
                    refine wpAnyH_take (i := 5) (v := .pointer (some (a.add (q * 2)))) rfl (by kernel_rfl) (by kernel_rfl) (by kernel_rfl) (fun _ _ _ h => h) (Or.inl ⟨by kernel_rfl, fun w _ => by go_simp⟩) S1 ?_
                    simp only [Act.put, List.getElem_toArray, List.getElem_cons_zero, List.getElem_cons_succ, List.setIfInBounds_toArray, List.set_cons_zero, List.set_cons_succ]
                    refine wpAnyH_take (i := 6) (v := .agg #[.string E.n, .int .i64 E.i]) rfl (by kernel_rfl) (by kernel_rfl) (by kernel_rfl) (fun _ _ _ h => h) (yields_cells (q := a.add (q * 2)) (row := [.string E.n, .int .i64 E.i]) aggE sizeE (.tmp 70) (by kernel_rfl) (by kernel_rfl) (by kernel_rfl) rfl (fun w h => h.2)) S1 ?_
                    simp only [Act.put, List.getElem_toArray, List.getElem_cons_zero, List.getElem_cons_succ, List.setIfInBounds_toArray, List.set_cons_zero, List.set_cons_succ]
                    refine wpAnyH_ready (rs := [1, 7]) (by kernel_rfl) (by simp) (AllReadyH.cons rfl (fun K hK => ?_) (AllReadyH.cons rfl (fun K hK => ?_) AllReadyH.nil))
                    · go_simp
                      refine hK _ _ S1 (fun _ => ?_)
                      clear hK K
                      refine wpAnyH_ready (rs := [7]) (by kernel_rfl) (by simp) (AllReadyH.cons rfl (fun K hK => ?_) AllReadyH.nil)
                      go_simp
                      have T2 := Lib.hid ((hW.out.alloc hW.out.size (.cells #[.string E.n, .int .i64 E.i] 32)).drew)
                      have O2 : Hid (OwnE (wr.alloc (.cells #[.string E.n, .int .i64 E.i] 32)).drew (go + 1) (.slice A' m c') L) := Lib.hid (hO.out.kept (((Below.refl wr.heap.size wr).alloc (Nat.le_refl _) (.cells #[.string E.n, .int .i64 E.i] 32)).drew))
                      have B2 : Hid (Blk (wr.alloc (.cells #[.string E.n, .int .i64 E.i] 32)).drew (g0 + 1 + 1) 24 [.int .i64 0, .int .i64 0, .slice none 0 0]) := Lib.hid (hB.out.alloc (.cells #[.string E.n, .int .i64 E.i] 32))
                      have N2 : Hid (Blk (wr.alloc (.cells #[.string E.n, .int .i64 E.i] 32)).drew go 24 [.int .i64 2, .int .i64 0, .slice A' m c']) := Lib.hid (hN.out.alloc (.cells #[.string E.n, .int .i64 E.i] 32))
                      have D2 : Hid (Row (wr.alloc (.cells #[.string E.n, .int .i64 E.i] 32)).drew (wr.heap.size + 1) (some ⟨wr.heap.size, 0, none⟩) (erows [E])) := Lib.hid (Row.new wr #[.string E.n, .int .i64 E.i] 32 (0, 0) wr.heap.size rfl (Nat.lt_succ_self _))
                      have Z2 : Hid (go + 1 ≤ (wr.alloc (.cells #[.string E.n, .int .i64 E.i] 32)).drew.heap.size) := Lib.hid (Nat.le_trans hZ.out (by simp))
                      have S2 := KS.out _ T2.out
                      obtain ⟨W2, hW2⟩ : ∃ W2, W2 = (wr.alloc (.cells #[.string E.n, .int .i64 E.i] 32)).drew := ⟨_, rfl⟩
                      rw [← hW2] at T2 O2 B2 N2 D2 Z2 S2 ⊢
                      obtain ⟨gx, hgx⟩ : ∃ gx, wr.heap.size = gx := ⟨_, rfl⟩
                      rw [hgx] at D2 ⊢
                      clear hW2 hgx
                      refine hK _ _ S2 (fun _ => ?_)
                      clear hK K
                      refine wpAnyH_ready (rs := [8]) (by kernel_rfl) (by simp) (AllReadyH.cons rfl (fun K hK => ?_) AllReadyH.nil)
                      refine step_append_ents hi hzz rfl hs hby (by kernel_rfl) (.tmp 66) (.tmp 72) (by kernel_rfl) hLm.out (by kernel_rfl) O2.out ⟨gx, 0, none⟩ 1 1 [E] rfl (by kernel_rfl) _ D2.out (by omega) Z2.out (m + 1) rfl ?_
                      intro A9 c9 w9 O9 g9
                      have hlo : ∀ q, (Value.slice A' m c').ownBlock = some q → go + 1 ≤ q := fun q e => (World.ownsRow.lt O2.out q e).1
                      have HO9 := Lib.hid O9
                      have B9 := Lib.hid (B2.out.grown g9 (fun e => by have := hlo (g0 + 1 + 1) e.symm; have := SZ4.out; have := HGO.out; omega))
                      have N9 := Lib.hid (N2.out.grown g9 (fun e => by have := hlo go e.symm; omega))
                      have H9 := Lib.hid (T2.out.grown g9 T2.out.size fun q e => by have := hlo q e; have := HGO.out; omega)
                      have Z9 := Lib.hid (Nat.le_trans Z2.out g9.size)
                      have S9 := KS.out _ H9.out
                      have c9x : w9.cell? ⟨go, 2, none⟩ = some (.slice A' m c') := N9.out.cell 2
                      have f9x := N9.out.free 2
                      clear O9 g9 hlo O2 B2 N2 D2 T2 Z2
                      refine hK _ _ S9 (fun _ => ?_)
                      clear hK K
                      refine wpAnyH_take (i := 9) (v := .pointer (some ⟨go, 2, none⟩)) rfl (by kernel_rfl) (by kernel_rfl) (by kernel_rfl) (fun _ _ _ h => h) (Or.inl ⟨by kernel_rfl, fun w _ => by go_simp⟩) S9 ?_
                      simp only [Act.put, List.getElem_toArray, List.getElem_cons_zero, List.getElem_cons_succ, List.setIfInBounds_toArray, List.set_cons_zero, List.set_cons_succ]
                      refine wpAnyH_ready (rs := [10]) (by kernel_rfl) (by simp) (AllReadyH.cons rfl (fun K hK => ?_) AllReadyH.nil)
                      go_simp
                      have s10 : w9.grownBy (w9.setCell ⟨go, 2, none⟩ (.slice A9 (m + 1) c9)) (some go) := only_set w9 ⟨go, 2, none⟩ (.slice A9 (m + 1) c9)
                      have N10 : Hid (Blk (w9.setCell ⟨go, 2, none⟩ (.slice A9 (m + 1) c9)) go 24 [.int .i64 2, .int .i64 0, .slice A9 (m + 1) c9]) := Lib.hid (N9.out.set 2 (.slice A9 (m + 1) c9))
                      have B10 := Lib.hid (B9.out.grown s10 (by simp only [ne_eq, Option.some.injEq]; have := SZ4.out; have := HGO.out; omega))
                      have O10 := Lib.hid (HO9.out.grown (by omega) s10)
                      have H10 := Lib.hid (H9.out.grown s10 H9.out.size fun q e => by cases e; have := HGO.out; omega)
                      have Z10 := Lib.hid (Nat.le_trans Z9.out s10.size)
                      have S10 := KS.out _ H10.out
                      refine hK _ _ S10 (fun _ => ?_)
                      clear hK K
                      refine wpAnyH_done (by kernel_rfl) ?_ _
                      generalize w9.setCell ⟨go, 2, none⟩ (.slice A9 (m + 1) c9) = W10 at N10 B10 O10 H10 Z10 ⊢
                      clear S10 S9 S1 s10 c9x f9x N9 B9 HO9 H9 Z9
                      go_wp2_with fail
                      go_roundg g
                      case measure => omega
                      case rel => exact ⟨q + 1, m + 1, A9, c9, _, false, by omega, rfl, by go_num, Lib.hid (by rw [List.length_append, hLm.out]; rfl), HX, B10, N10, O10, H10, Z10⟩
                    · go_simp
                      have T2 := Lib.hid ((hW.out.alloc hW.out.size (.cells #[.string E.n, .int .i64 E.i] 32)).drew)
                      have O2 : Hid (OwnE (wr.alloc (.cells #[.string E.n, .int .i64 E.i] 32)).drew (go + 1) (.slice A' m c') L) := Lib.hid (hO.out.kept (((Below.refl wr.heap.size wr).alloc (Nat.le_refl _) (.cells #[.string E.n, .int .i64 E.i] 32)).drew))
                      have B2 : Hid (Blk (wr.alloc (.cells #[.string E.n, .int .i64 E.i] 32)).drew (g0 + 1 + 1) 24 [.int .i64 0, .int .i64 0, .slice none 0 0]) := Lib.hid (hB.out.alloc (.cells #[.string E.n, .int .i64 E.i] 32))
                      have N2 : Hid (Blk (wr.alloc (.cells #[.string E.n, .int .i64 E.i] 32)).drew go 24 [.int .i64 2, .int .i64 0, .slice A' m c']) := Lib.hid (hN.out.alloc (.cells #[.string E.n, .int .i64 E.i] 32))
                      have D2 : Hid (Row (wr.alloc (.cells #[.string E.n, .int .i64 E.i] 32)).drew (wr.heap.size + 1) (some ⟨wr.heap.size, 0, none⟩) (erows [E])) := Lib.hid (Row.new wr #[.string E.n, .int .i64 E.i] 32 (0, 0) wr.heap.size rfl (Nat.lt_succ_self _))
                      have Z2 : Hid (go + 1 ≤ (wr.alloc (.cells #[.string E.n, .int .i64 E.i] 32)).drew.heap.size) := Lib.hid (Nat.le_trans hZ.out (by simp))
                      have S2 := KS.out _ T2.out
                      obtain ⟨W2, hW2⟩ : ∃ W2, W2 = (wr.alloc (.cells #[.string E.n, .int .i64 E.i] 32)).drew := ⟨_, rfl⟩
                      rw [← hW2] at T2 O2 B2 N2 D2 Z2 S2 ⊢
                      obtain ⟨gx, hgx⟩ : ∃ gx, wr.heap.size = gx := ⟨_, rfl⟩
                      rw [hgx] at D2 ⊢
                      clear hW2 hgx
                      refine hK _ _ S2 (fun _ => ?_)
                      clear hK K
                      have c52 : W2.cell? ⟨go, 2, none⟩ = some (.slice A' m c') := N2.out.cell 2
                      refine wpAnyH_ready (rs := [1]) (by kernel_rfl) (by simp) (AllReadyH.cons rfl (fun K hK => ?_) AllReadyH.nil)
                      go_simp
                      refine hK _ _ S2 (fun _ => ?_)
                      clear hK K
                      refine wpAnyH_ready (rs := [8]) (by kernel_rfl) (by simp) (AllReadyH.cons rfl (fun K hK => ?_) AllReadyH.nil)
                      refine step_append_ents hi hzz rfl hs hby (by kernel_rfl) (.tmp 66) (.tmp 72) (by kernel_rfl) hLm.out (by kernel_rfl) O2.out ⟨gx, 0, none⟩ 1 1 [E] rfl (by kernel_rfl) _ D2.out (by omega) Z2.out (m + 1) rfl ?_
                      intro A9 c9 w9 O9 g9
                      have hlo : ∀ q, (Value.slice A' m c').ownBlock = some q → go + 1 ≤ q := fun q e => (World.ownsRow.lt O2.out q e).1
                      have HO9 := Lib.hid O9
                      have B9 := Lib.hid (B2.out.grown g9 (fun e => by have := hlo (g0 + 1 + 1) e.symm; have := SZ4.out; have := HGO.out; omega))
                      have N9 := Lib.hid (N2.out.grown g9 (fun e => by have := hlo go e.symm; omega))
                      have H9 := Lib.hid (T2.out.grown g9 T2.out.size fun q e => by have := hlo q e; have := HGO.out; omega)
                      have Z9 := Lib.hid (Nat.le_trans Z2.out g9.size)
                      have S9 := KS.out _ H9.out
                      have c9x : w9.cell? ⟨go, 2, none⟩ = some (.slice A' m c') := N9.out.cell 2
                      have f9x := N9.out.free 2
                      clear O9 g9 hlo O2 B2 N2 D2 T2 Z2
                      refine hK _ _ S9 (fun _ => ?_)
                      clear hK K
                      refine wpAnyH_take (i := 9) (v := .pointer (some ⟨go, 2, none⟩)) rfl (by kernel_rfl) (by kernel_rfl) (by kernel_rfl) (fun _ _ _ h => h) (Or.inl ⟨by kernel_rfl, fun w _ => by go_simp⟩) S9 ?_
                      simp only [Act.put, List.getElem_toArray, List.getElem_cons_zero, List.getElem_cons_succ, List.setIfInBounds_toArray, List.set_cons_zero, List.set_cons_succ]
                      refine wpAnyH_ready (rs := [10]) (by kernel_rfl) (by simp) (AllReadyH.cons rfl (fun K hK => ?_) AllReadyH.nil)
                      go_simp
                      have s10 : w9.grownBy (w9.setCell ⟨go, 2, none⟩ (.slice A9 (m + 1) c9)) (some go) := only_set w9 ⟨go, 2, none⟩ (.slice A9 (m + 1) c9)
                      have N10 : Hid (Blk (w9.setCell ⟨go, 2, none⟩ (.slice A9 (m + 1) c9)) go 24 [.int .i64 2, .int .i64 0, .slice A9 (m + 1) c9]) := Lib.hid (N9.out.set 2 (.slice A9 (m + 1) c9))
                      have B10 := Lib.hid (B9.out.grown s10 (by simp only [ne_eq, Option.some.injEq]; have := SZ4.out; have := HGO.out; omega))
                      have O10 := Lib.hid (HO9.out.grown (by omega) s10)
                      have H10 := Lib.hid (H9.out.grown s10 H9.out.size fun q e => by cases e; have := HGO.out; omega)
                      have Z10 := Lib.hid (Nat.le_trans Z9.out s10.size)
                      have S10 := KS.out _ H10.out
                      refine hK _ _ S10 (fun _ => ?_)
                      clear hK K
                      refine wpAnyH_done (by kernel_rfl) ?_ _
                      generalize w9.setCell ⟨go, 2, none⟩ (.slice A9 (m + 1) c9) = W10 at N10 B10 O10 H10 Z10 ⊢
                      clear S10 S9 S1 s10 c9x f9x N9 B9 HO9 H9 Z9
                      go_wp2_with fail
                      go_roundg g
                      case measure => omega
                      case rel => exact ⟨q + 1, m + 1, A9, c9, _, false, by omega, rfl, by go_num, Lib.hid (by rw [List.length_append, hLm.out]; rfl), HX, B10, N10, O10, H10, Z10⟩
                  | true =>
                    have hx := HNX.out
                    rw [if_pos (by simp)] at hx
                    have HX : Hid (insP false es x = ((L ++ [x]) ++ [E]) ++ insP true (es.drop (q + 1)) x) := Lib.hid (by rw [hX.out, hx]; simp only [List.append_assoc]; rfl)
                    have OX := Lib.hid (hO.out.kept ((Below.refl wr.heap.size wr).alloc (Nat.le_refl _) (.cells #[.string x.n, .int .i64 x.i] 32)))
                    have DX : Hid (Row (wr.alloc (.cells #[.string x.n, .int .i64 x.i] 32)) (wr.heap.size + 1) (some ⟨wr.heap.size, 0, none⟩) (erows [x])) := Lib.hid (Row.new wr #[.string x.n, .int .i64 x.i] 32 (0, 0) wr.heap.size rfl (Nat.lt_succ_self _))
                    have ZX : Hid (go + 1 ≤ (wr.alloc (.cells #[.string x.n, .int .i64 x.i] 32)).heap.size) := Lib.hid (by have := hZ.out; simp; omega)
                    have NX := Lib.hid (hN.out.alloc (.cells #[.string x.n, .int .i64 x.i] 32))
                    have BX := Lib.hid (hB.out.alloc (.cells #[.string x.n, .int .i64 x.i] 32))
                    have WX := Lib.hid (hW.out.alloc hW.out.size (.cells #[.string x.n, .int .i64 x.i] 32))
                    have c5 : wr.cell? ⟨go, 2, none⟩ = some (.slice A' m c') := hN.out.cell 2
                    have e40 : wr.cell? ⟨g0 + 1, 0, none⟩ = some (.string x.n) := (E4.out.after hW.out).cell 0
                    have e41 : wr.cell? ⟨g0 + 1, 1, none⟩ = some (.int .i64 x.i) := (E4.out.after hW.out).cell 1
                    have hlo : ∀ q, (Value.slice A' m c').ownBlock = some q → go + 1 ≤ q := fun q e => (World.ownsRow.lt hO.out q e).1
                    have HLO := Lib.hid hlo
                    have hzx := ZX.out
                    have hm1 : m + 1 ≤ 100000 := by omega
                    clear hx HNX hlo
                    go_wp2_with (at_builtin; (refine wpl_append_ents hi hzz rfl hs hby rfl (.tmp 60) (.tmp 62) rfl hLm.out rfl OX.out (some ⟨wr.heap.size, 0, none⟩) 1 1 [x] rfl rfl _ DX.out hm1 hzx (m + 1) rfl ?_); intro A' c' w5 O5 g5; have HO5 := Lib.hid O5; have HG5 := Lib.hid g5; have N5 := Lib.hid (NX.out.grown g5 (fun e => by have := HLO.out go e.symm; omega)); have c50 := show w5.cell? ⟨go, 2, none⟩ = some _ from N5.out.cell 2; have f50 := N5.out.free 2; clear O5 g5)
                    have s6 : w5.grownBy (w5.setCell ⟨go, 2, none⟩ (.slice A' (m + 1) c')) (some go) := only_set w5 ⟨go, 2, none⟩ (.slice A' (m + 1) c')
                    have hN : Hid (Blk (w5.setCell ⟨go, 2, none⟩ (.slice A' (m + 1) c')) go 24 [.int .i64 2, .int .i64 0, .slice A' (m + 1) c']) := Lib.hid (N5.out.set 2 (.slice A' (m + 1) c'))
                    have hB := Lib.hid ((BX.out.grown HG5.out (fun e => by have := HLO.out _ e.symm; have := SZ4.out; have := HGO.out; omega)).grown s6 (by simp only [ne_eq, Option.some.injEq]; have := SZ4.out; have := HGO.out; omega))
                    have hO := Lib.hid (HO5.out.grown (Nat.lt_succ_self go) s6)
                    have hW := Lib.hid ((WX.out.grown HG5.out WX.out.size fun q e => by have := HLO.out q e; have := HGO.out; omega).grown s6 (Nat.le_trans WX.out.size HG5.out.size) fun q e => by cases e; have := HGO.out; omega)
                    have hZ := Lib.hid (Nat.le_trans ZX.out (Nat.le_trans HG5.out.size s6.size))
                    have hLm : Hid ((L ++ [x]).length = m + 1) := Lib.hid (by rw [List.length_append, hLm.out]; rfl)
                    clear OX DX ZX NX BX WX c5 e40 e41 HLO hzx HO5 HG5 N5 c50 f50 s6
                    have hmN2 : m + 1 ≤ N + 2 := by omega
                    generalize w5.setCell ⟨go, 2, none⟩ (.slice A' (m + 1) c') = wr at hB hN hO hZ hW ⊢
                    obtain ⟨m, hmm⟩ : ∃ m', m' = m + 1 := ⟨_, rfl⟩
                    rw [← hmm] at hN hO hLm hmN2 ⊢
                    clear hmm
                    generalize L ++ [x] = L at hO hLm HX
                    have hmN : m ≤ N + 2 := hmN2
                    have c5 : wr.cell? ⟨go, 2, none⟩ = some (.slice A' m c') := hN.out.cell 2
                    have T1 := Lib.hid hW.out.drew
                    have S1 := KS.out _ T1.out
                    go_wp2_with fail
                    refine wp_region_held_drew (S := (fun w' => w'.cell? ⟨g0, 2, none⟩ = some (.slice (some a) N c) ∧ ∀ (j : Nat) u, ([.string E.n, .int .i64 E.i] : List Value)[j]? = some u → w'.cell? ((a.add (q * 2)).add j) = some u)) (by kernel_rfl) S1 (fun _ => ?_)
                    refine wpAnyH_take (i := 0) (v := .pointer (some ⟨go, 2, none⟩)) rfl (by kernel_rfl) (by kernel_rfl) (by kernel_rfl) (fun _ _ _ h => h) (Or.inl ⟨by kernel_rfl, fun w _ => by go_simp⟩) S1 ?_
                    simp only [Act.put, List.getElem_toArray, List.getElem_cons_zero, List.setIfInBounds_toArray, List.set_cons_zero, List.set_cons_succ]
                    refine wpAnyH_take (i := 2) (v := .pointer (some ⟨g0, 2, none⟩)) rfl (by kernel_rfl) (by kernel_rfl) (by kernel_rfl) (fun _ _ _ h => h) (Or.inl ⟨by kernel_rfl, fun w _ => by go_simp⟩) S1 ?_
                    simp only [Act.put, List.getElem_toArray, List.getElem_cons_zero, List.getElem_cons_succ, List.setIfInBounds_toArray, List.set_cons_zero, List.set_cons_succ]
                    refine wpAnyH_take (i := 3) (v := .slice (some a) N c) rfl (by kernel_rfl) (by kernel_rfl) (by kernel_rfl) (fun _ _ _ h => h) (yields_one (ty := 22) (fun w => by kernel_rfl) (.tmp 67) (by kernel_rfl) (by kernel_rfl) (by kernel_rfl) (fun w h => h.1)) S1 ?_
                    simp only [Act.put, List.getElem_toArray, List.getElem_cons_zero, List.getElem_cons_succ, List.setIfInBounds_toArray, List.set_cons_zero, List.set_cons_succ]
                    refine wpAnyH_take (i := 4) (v := .int .i64 (q : Int)) rfl (by kernel_rfl) (by kernel_rfl) (by kernel_rfl) (fun _ _ _ h => h) (Or.inl ⟨by kernel_rfl, fun w _ => by go_simp⟩) S1 ?_
                    simp only [Act.put, List.getElem_toArray, List.getElem_cons_zero, List.getElem_cons_succ, List.setIfInBounds_toArray, List.set_cons_zero, List.set_cons_succ]
                    refine wpAnyH_take (i := 5) (v := .pointer (some (a.add (q * 2)))) rfl (by kernel_rfl) (by kernel_rfl) (by kernel_rfl) (fun _ _ _ h => h) (Or.inl ⟨by kernel_rfl, fun w _ => by go_simp⟩) S1 ?_
                    simp only [Act.put, List.getElem_toArray, List.getElem_cons_zero, List.getElem_cons_succ, List.setIfInBounds_toArray, List.set_cons_zero, List.set_cons_succ]
                    refine wpAnyH_take (i := 6) (v := .agg #[.string E.n, .int .i64 E.i]) rfl (by kernel_rfl) (by kernel_rfl) (by kernel_rfl) (fun _ _ _ h => h) (yields_cells (q := a.add (q * 2)) (row := [.string E.n, .int .i64 E.i]) aggE sizeE (.tmp 70) (by kernel_rfl) (by kernel_rfl) (by kernel_rfl) rfl (fun w h => h.2)) S1 ?_
                    simp only [Act.put, List.getElem_toArray, List.getElem_cons_zero, List.getElem_cons_succ, List.setIfInBounds_toArray, List.set_cons_zero, List.set_cons_succ]
                    refine wpAnyH_ready (rs := [1, 7]) (by kernel_rfl) (by simp) (AllReadyH.cons rfl (fun K hK => ?_) (AllReadyH.cons rfl (fun K hK => ?_) AllReadyH.nil))
                    · go_simp
                      refine hK _ _ S1 (fun _ => ?_)
                      clear hK K
                      refine wpAnyH_ready (rs := [7]) (by kernel_rfl) (by simp) (AllReadyH.cons rfl (fun K hK => ?_) AllReadyH.nil)
                      go_simp
                      have T2 := Lib.hid ((hW.out.alloc hW.out.size (.cells #[.string E.n, .int .i64 E.i] 32)).drew)
                      have O2 : Hid (OwnE (wr.alloc (.cells #[.string E.n, .int .i64 E.i] 32)).drew (go + 1) (.slice A' m c') L) := Lib.hid (hO.out.kept (((Below.refl wr.heap.size wr).alloc (Nat.le_refl _) (.cells #[.string E.n, .int .i64 E.i] 32)).drew))
                      have B2 : Hid (Blk (wr.alloc (.cells #[.string E.n, .int .i64 E.i] 32)).drew (g0 + 1 + 1) 24 [.int .i64 0, .int .i64 0, .slice none 0 0]) := Lib.hid (hB.out.alloc (.cells #[.string E.n, .int .i64 E.i] 32))
                      have N2 : Hid (Blk (wr.alloc (.cells #[.string E.n, .int .i64 E.i] 32)).drew go 24 [.int .i64 2, .int .i64 0, .slice A' m c']) := Lib.hid (hN.out.alloc (.cells #[.string E.n, .int .i64 E.i] 32))
                      have D2 : Hid (Row (wr.alloc (.cells #[.string E.n, .int .i64 E.i] 32)).drew (wr.heap.size + 1) (some ⟨wr.heap.size, 0, none⟩) (erows [E])) := Lib.hid (Row.new wr #[.string E.n, .int .i64 E.i] 32 (0, 0) wr.heap.size rfl (Nat.lt_succ_self _))
                      have Z2 : Hid (go + 1 ≤ (wr.alloc (.cells #[.string E.n, .int .i64 E.i] 32)).drew.heap.size) := Lib.hid (Nat.le_trans hZ.out (by simp))
                      have S2 := KS.out _ T2.out
                      obtain ⟨W2, hW2⟩ : ∃ W2, W2 = (wr.alloc (.cells #[.string E.n, .int .i64 E.i] 32)).drew := ⟨_, rfl⟩
                      rw [← hW2] at T2 O2 B2 N2 D2 Z2 S2 ⊢
                      obtain ⟨gx, hgx⟩ : ∃ gx, wr.heap.size = gx := ⟨_, rfl⟩
                      rw [hgx] at D2 ⊢
                      clear hW2 hgx
                      refine hK _ _ S2 (fun _ => ?_)
                      clear hK K
                      refine wpAnyH_ready (rs := [8]) (by kernel_rfl) (by simp) (AllReadyH.cons rfl (fun K hK => ?_) AllReadyH.nil)
                      refine step_append_ents hi hzz rfl hs hby (by kernel_rfl) (.tmp 66) (.tmp 72) (by kernel_rfl) hLm.out (by kernel_rfl) O2.out ⟨gx, 0, none⟩ 1 1 [E] rfl (by kernel_rfl) _ D2.out (by omega) Z2.out (m + 1) rfl ?_
                      intro A9 c9 w9 O9 g9
                      have hlo : ∀ q, (Value.slice A' m c').ownBlock = some q → go + 1 ≤ q := fun q e => (World.ownsRow.lt O2.out q e).1
                      have HO9 := Lib.hid O9
                      have B9 := Lib.hid (B2.out.grown g9 (fun e => by have := hlo (g0 + 1 + 1) e.symm; have := SZ4.out; have := HGO.out; omega))
                      have N9 := Lib.hid (N2.out.grown g9 (fun e => by have := hlo go e.symm; omega))
                      have H9 := Lib.hid (T2.out.grown g9 T2.out.size fun q e => by have := hlo q e; have := HGO.out; omega)
                      have Z9 := Lib.hid (Nat.le_trans Z2.out g9.size)
                      have S9 := KS.out _ H9.out
                      have c9x : w9.cell? ⟨go, 2, none⟩ = some (.slice A' m c') := N9.out.cell 2
                      have f9x := N9.out.free 2
                      clear O9 g9 hlo O2 B2 N2 D2 T2 Z2
                      refine hK _ _ S9 (fun _ => ?_)
                      clear hK K
                      refine wpAnyH_take (i := 9) (v := .pointer (some ⟨go, 2, none⟩)) rfl (by kernel_rfl) (by kernel_rfl) (by kernel_rfl) (fun _ _ _ h => h) (Or.inl ⟨by kernel_rfl, fun w _ => by go_simp⟩) S9 ?_
                      simp only [Act.put, List.getElem_toArray, List.getElem_cons_zero, List.getElem_cons_succ, List.setIfInBounds_toArray, List.set_cons_zero, List.set_cons_succ]
                      refine wpAnyH_ready (rs := [10]) (by kernel_rfl) (by simp) (AllReadyH.cons rfl (fun K hK => ?_) AllReadyH.nil)
                      go_simp
                      have s10 : w9.grownBy (w9.setCell ⟨go, 2, none⟩ (.slice A9 (m + 1) c9)) (some go) := only_set w9 ⟨go, 2, none⟩ (.slice A9 (m + 1) c9)
                      have N10 : Hid (Blk (w9.setCell ⟨go, 2, none⟩ (.slice A9 (m + 1) c9)) go 24 [.int .i64 2, .int .i64 0, .slice A9 (m + 1) c9]) := Lib.hid (N9.out.set 2 (.slice A9 (m + 1) c9))
                      have B10 := Lib.hid (B9.out.grown s10 (by simp only [ne_eq, Option.some.injEq]; have := SZ4.out; have := HGO.out; omega))
                      have O10 := Lib.hid (HO9.out.grown (by omega) s10)
                      have H10 := Lib.hid (H9.out.grown s10 H9.out.size fun q e => by cases e; have := HGO.out; omega)
                      have Z10 := Lib.hid (Nat.le_trans Z9.out s10.size)
                      have S10 := KS.out _ H10.out
                      refine hK _ _ S10 (fun _ => ?_)
                      clear hK K
                      refine wpAnyH_done (by kernel_rfl) ?_ _
                      generalize w9.setCell ⟨go, 2, none⟩ (.slice A9 (m + 1) c9) = W10 at N10 B10 O10 H10 Z10 ⊢
                      clear S10 S9 S1 s10 c9x f9x N9 B9 HO9 H9 Z9
                      go_wp2_with fail
                      go_roundg g
                      case measure => omega
                      case rel => exact ⟨q + 1, m + 1, A9, c9, _, true, by omega, rfl, by go_num, Lib.hid (by rw [List.length_append, hLm.out]; rfl), HX, B10, N10, O10, H10, Z10⟩
                    · go_simp
                      have T2 := Lib.hid ((hW.out.alloc hW.out.size (.cells #[.string E.n, .int .i64 E.i] 32)).drew)
                      have O2 : Hid (OwnE (wr.alloc (.cells #[.string E.n, .int .i64 E.i] 32)).drew (go + 1) (.slice A' m c') L) := Lib.hid (hO.out.kept (((Below.refl wr.heap.size wr).alloc (Nat.le_refl _) (.cells #[.string E.n, .int .i64 E.i] 32)).drew))
                      have B2 : Hid (Blk (wr.alloc (.cells #[.string E.n, .int .i64 E.i] 32)).drew (g0 + 1 + 1) 24 [.int .i64 0, .int .i64 0, .slice none 0 0]) := Lib.hid (hB.out.alloc (.cells #[.string E.n, .int .i64 E.i] 32))
                      have N2 : Hid (Blk (wr.alloc (.cells #[.string E.n, .int .i64 E.i] 32)).drew go 24 [.int .i64 2, .int .i64 0, .slice A' m c']) := Lib.hid (hN.out.alloc (.cells #[.string E.n, .int .i64 E.i] 32))
                      have D2 : Hid (Row (wr.alloc (.cells #[.string E.n, .int .i64 E.i] 32)).drew (wr.heap.size + 1) (some ⟨wr.heap.size, 0, none⟩) (erows [E])) := Lib.hid (Row.new wr #[.string E.n, .int .i64 E.i] 32 (0, 0) wr.heap.size rfl (Nat.lt_succ_self _))
                      have Z2 : Hid (go + 1 ≤ (wr.alloc (.cells #[.string E.n, .int .i64 E.i] 32)).drew.heap.size) := Lib.hid (Nat.le_trans hZ.out (by simp))
                      have S2 := KS.out _ T2.out
                      obtain ⟨W2, hW2⟩ : ∃ W2, W2 = (wr.alloc (.cells #[.string E.n, .int .i64 E.i] 32)).drew := ⟨_, rfl⟩
                      rw [← hW2] at T2 O2 B2 N2 D2 Z2 S2 ⊢
                      obtain ⟨gx, hgx⟩ : ∃ gx, wr.heap.size = gx := ⟨_, rfl⟩
                      rw [hgx] at D2 ⊢
                      clear hW2 hgx
                      refine hK _ _ S2 (fun _ => ?_)
                      clear hK K
                      have c52 : W2.cell? ⟨go, 2, none⟩ = some (.slice A' m c') := N2.out.cell 2
                      refine wpAnyH_ready (rs := [1]) (by kernel_rfl) (by simp) (AllReadyH.cons rfl (fun K hK => ?_) AllReadyH.nil)
                      go_simp
                      refine hK _ _ S2 (fun _ => ?_)
                      clear hK K
                      refine wpAnyH_ready (rs := [8]) (by kernel_rfl) (by simp) (AllReadyH.cons rfl (fun K hK => ?_) AllReadyH.nil)
                      refine step_append_ents hi hzz rfl hs hby (by kernel_rfl) (.tmp 66) (.tmp 72) (by kernel_rfl) hLm.out (by kernel_rfl) O2.out ⟨gx, 0, none⟩ 1 1 [E] rfl (by kernel_rfl) _ D2.out (by omega) Z2.out (m + 1) rfl ?_
                      intro A9 c9 w9 O9 g9
                      have hlo : ∀ q, (Value.slice A' m c').ownBlock = some q → go + 1 ≤ q := fun q e => (World.ownsRow.lt O2.out q e).1
                      have HO9 := Lib.hid O9
                      have B9 := Lib.hid (B2.out.grown g9 (fun e => by have := hlo (g0 + 1 + 1) e.symm; have := SZ4.out; have := HGO.out; omega))
                      have N9 := Lib.hid (N2.out.grown g9 (fun e => by have := hlo go e.symm; omega))
                      have H9 := Lib.hid (T2.out.grown g9 T2.out.size fun q e => by have := hlo q e; have := HGO.out; omega)
                      have Z9 := Lib.hid (Nat.le_trans Z2.out g9.size)
                      have S9 := KS.out _ H9.out
                      have c9x : w9.cell? ⟨go, 2, none⟩ = some (.slice A' m c') := N9.out.cell 2
                      have f9x := N9.out.free 2
                      clear O9 g9 hlo O2 B2 N2 D2 T2 Z2
                      refine hK _ _ S9 (fun _ => ?_)
                      clear hK K
                      refine wpAnyH_take (i := 9) (v := .pointer (some ⟨go, 2, none⟩)) rfl (by kernel_rfl) (by kernel_rfl) (by kernel_rfl) (fun _ _ _ h => h) (Or.inl ⟨by kernel_rfl, fun w _ => by go_simp⟩) S9 ?_
                      simp only [Act.put, List.getElem_toArray, List.getElem_cons_zero, List.getElem_cons_succ, List.setIfInBounds_toArray, List.set_cons_zero, List.set_cons_succ]
                      refine wpAnyH_ready (rs := [10]) (by kernel_rfl) (by simp) (AllReadyH.cons rfl (fun K hK => ?_) AllReadyH.nil)
                      go_simp
                      have s10 : w9.grownBy (w9.setCell ⟨go, 2, none⟩ (.slice A9 (m + 1) c9)) (some go) := only_set w9 ⟨go, 2, none⟩ (.slice A9 (m + 1) c9)
                      have N10 : Hid (Blk (w9.setCell ⟨go, 2, none⟩ (.slice A9 (m + 1) c9)) go 24 [.int .i64 2, .int .i64 0, .slice A9 (m + 1) c9]) := Lib.hid (N9.out.set 2 (.slice A9 (m + 1) c9))
                      have B10 := Lib.hid (B9.out.grown s10 (by simp only [ne_eq, Option.some.injEq]; have := SZ4.out; have := HGO.out; omega))
                      have O10 := Lib.hid (HO9.out.grown (by omega) s10)
                      have H10 := Lib.hid (H9.out.grown s10 H9.out.size fun q e => by cases e; have := HGO.out; omega)
                      have Z10 := Lib.hid (Nat.le_trans Z9.out s10.size)
                      have S10 := KS.out _ H10.out
                      refine hK _ _ S10 (fun _ => ?_)
                      clear hK K
                      refine wpAnyH_done (by kernel_rfl) ?_ _
                      generalize w9.setCell ⟨go, 2, none⟩ (.slice A9 (m + 1) c9) = W10 at N10 B10 O10 H10 Z10 ⊢
                      clear S10 S9 S1 s10 c9x f9x N9 B9 HO9 H9 Z9
                      go_wp2_with fail
                      go_roundg g
                      case measure => omega
                      case rel => exact ⟨q + 1, m + 1, A9, c9, _, true, by omega, rfl, by go_num, Lib.hid (by rw [List.length_append, hLm.out]; rfl), HX, B10, N10, O10, H10, Z10⟩
  · have hkk : (k != 2) = true := by simpa using hk2
    have hz : Hid (RI = (⟨0, 0, []⟩, 63)) := Lib.hid (by rw [HRI.out, if_neg (fun h => hk2 h.1)])
    go_wp2_with ((with_reducible refine wpl_seg_store sizeI (.tmp 4) (.tmp 19) rfl rfl (by rw [hW] at R1; exact R1.out) 0 [.int .i64 0, .int .i64 0, .slice none 0 0] rfl (Nat.le_refl _) ZO.out rfl rfl _ rfl ?_); intro w7 B7 g7 e7)
    refine bodyPost_ret (sret2 aggI sizeI rfl _ B7 (i := 0) (vs := [.int .i64 0, .int .i64 0, .slice none 0 0]) rfl rfl rfl) rfl ?_
    rw [hz.out]
    rw [← hW] at g7
    exact ⟨WithP.no 63 _ _ rfl, HB.out.grown g7 HB.out.size (fun k e => by cases e; omega)⟩
end Go.Proofs.Ytkpojlnfagonbaa


/- The walk of InodeEntries: it answers true, and changes nothing that was there. No condition but that the arguments are there. -/
import Derived.Test.YtkpojlnfagonbaaQInoEntM
import Derived.Test.YtkpojlnfagonbaaQInoSpeaks
import Derived.Test.YtkpojlnfagonbaaQInoGreat
import Derived.Test.YtkpojlnfagonbaaQInoSame
import Derived.Test.YtkpojlnfagonbaaQInoOpen
import Derived.Test.YtkpojlnfagonbaaQOpenStrs
import Derived.Deep.RegionHeld3
import Derived.Deep.DeepCutAuto
namespace Go.Proofs.Ytkpojlnfagonbaa
open Go Go.RowKit Go.Shelf
theorem Blk.new3e (w : World) (x y z : Value) (t : TypeId) : Blk (w.alloc (.cells #[x, y, z] t)) w.heap.size t [x, y, z] := heap_alloc_new w _
theorem kept2e {w w' : World} {base g : Nat} {v : Value} {es : List EN} (h : OwnE w base v es) (k : w.grownBy w' (some g)) (hne : v.ownBlock ≠ some g) : OwnE w' base v es :=
  World.ownsRow.kept h k (.inr hne)
set_option maxRecDepth 100000 in
set_option maxHeartbeats 16000000 in
theorem inodeEntries_walk (n : IN) (v vm vx : Value) (more : List EN) (xs : List ByteArray) (w : World) (hv : Ents w w.heap.size v n.es) (hmo : Ents w w.heap.size vm more) (hxs : Strs w w.heap.size vx xs) :
    Calls Try.prog 3 #[.agg #[.int .i64 n.k, .int .i64 n.z, v], vm, vx] w fun e w' => e = .returned (.bool true) ∧ Below w.heap.size w w' := by
  obtain ⟨A, c, rfl, hc, hm⟩ := hv.shape
  obtain ⟨A9, c9, rfl, hc9, hm9⟩ := hmo.shape
  obtain ⟨A8, c8, rfl, hc8, hm8⟩ := hxs.shape
  have HB := Lib.hid ((Below.refl w.heap.size w).alloc (Nat.le_refl _) (.cells #[.int .i64 n.k, .int .i64 n.z, .slice A n.es.length c] 24))
  have HV := Lib.hid (hv.after HB.out)
  have HB1 := Lib.hid (Blk.new3e w (.int .i64 n.k) (.int .i64 n.z) (.slice A n.es.length c) 24)
  have KS := Lib.hid (inospeaks_any (w.alloc (.cells #[.int .i64 n.k, .int .i64 n.z, .slice A n.es.length c] 24)))
  have MO := Lib.hid hmo
  have XO := Lib.hid hxs
  obtain ⟨W, hW⟩ : ∃ W, W = w.alloc (.cells #[.int .i64 n.k, .int .i64 n.z, .slice A n.es.length c] 24) := ⟨_, rfl⟩
  obtain ⟨ti, hi, hz, hs, hby⟩ := infoE'
  obtain ⟨NL, hNL⟩ : ∃ NL, n.es.length = NL := ⟨_, rfl⟩
  have HNL := Lib.hid hNL
  obtain ⟨ML, hML⟩ : ∃ ML, more.length = ML := ⟨_, rfl⟩
  have HML := Lib.hid hML
  obtain ⟨XL, hXL⟩ : ∃ XL, xs.length = XL := ⟨_, rfl⟩
  have HXL := Lib.hid hXL
  clear hv hmo hxs
  rw [hNL] at hc HB HV HB1 KS hW
  rw [hML] at hc9 MO
  rw [hXL] at hc8 XO
  rw [hNL, hML, hXL]
  clear hNL hML hXL
  go_enter Try.func3, Try.ntmps3
  rw [← hW] at HB HV HB1 KS
  go_wp2_with fail
  rw [← hW]
  obtain ⟨g1, hg1⟩ : ∃ g1, w.heap.size = g1 := ⟨_, rfl⟩
  have HG1 := Lib.hid hg1
  rw [hg1] at HB1 ⊢
  clear hW hg1
  refine KS.out.mono ?_
  rintro e w1 ⟨rfl, b1⟩
  have T1 := Lib.hid (HB.out.trans (b1.mono HB.out.size))
  have V1 := Lib.hid (HV.out.after b1)
  have C1 := Lib.hid (HB1.out.after b1)
  clear KS b1 HB HV HB1
  by_cases hlen : NL ≤ 40
  · have KG := Lib.hid (igreat_any n _ w1 V1.out (by rw [HNL.out]; exact hlen))
    go_wp2_with (with_reducible refine wpl_seg_load aggI sizeI (.tmp 3) rfl rfl C1.out 0 [.int .i64 n.k, .int .i64 n.z, .slice A NL c] rfl rfl rfl ?_)
    refine KG.out.mono ?_
    rintro e w2 ⟨⟨b, rfl⟩, b2⟩
    have T2 := Lib.hid (T1.out.trans (b2.mono T1.out.size))
    have V2 := Lib.hid (V1.out.after b2)
    have C2 := Lib.hid (C1.out.after b2)
    clear KG b2 T1 V1 C1
    cases b with
    | true =>
      go_wp2_with fail
      go_ret
      exact ⟨rfl, T2.out⟩
    | false =>
      by_cases hml : ML ≤ 40
      · have KG2 := Lib.hid (igreat_any ⟨0, 0, more⟩ _ w2 ((MO.out.below T2.out).more T2.out.size) (by rw [HML.out]; exact hml))
        go_wp2_with fail
        refine KG2.out.mono ?_
        rintro e w3 ⟨⟨b, rfl⟩, b3⟩
        have T3 := Lib.hid (T2.out.trans (b3.mono T2.out.size))
        have V3 := Lib.hid (V2.out.after b3)
        have C3 := Lib.hid (C2.out.after b3)
        clear KG2 b3 T2 V2 C2
        cases b with
        | true =>
          go_wp2_with fail
          go_ret
          exact ⟨rfl, T3.out⟩
        | false =>
          by_cases hxl : XL ≤ 40
          · have i40 : ¬ (40 : Int) < (XL : Int) := by omega
            have C4 := Lib.hid ((C3.out.alloc (.cells #[.int .i64 n.k, .int .i64 n.z, .slice A NL c] 24)).alloc (.cells #[] 32))
            have B4' := Lib.hid ((Blk.new3e w3 (.int .i64 n.k) (.int .i64 n.z) (.slice A NL c) 24).alloc (.cells #[] 32))
            have H3 : Hid (Below w3.heap.size w3 ((w3.alloc (.cells #[.int .i64 n.k, .int .i64 n.z, .slice A NL c] 24)).alloc (.cells #[] 32))) := Lib.hid (((Below.refl w3.heap.size w3).alloc (Nat.le_refl _) (.cells #[.int .i64 n.k, .int .i64 n.z, .slice A NL c] 24)).alloc (by simp) (.cells #[] 32))
            have V3' := Lib.hid (V3.out.after H3.out)
            have O3 := Lib.hid (OwnE.made (w3.alloc (.cells #[.int .i64 n.k, .int .i64 n.z, .slice A NL c] 24)) (w3.heap.size + 1) (by simp) (w3.heap.size + 1) (by simp))
            have L3 : Hid (g1 < w3.heap.size) := Lib.hid C3.out.lt
            have LT3 := Lib.hid T3.out.size
            have c3 : ((w3.alloc (.cells #[.int .i64 n.k, .int .i64 n.z, .slice A NL c] 24)).alloc (.cells #[] 32)).cell? ⟨g1, 2, none⟩ = some (.slice A NL c) := C4.out.cell 2
            obtain ⟨RB, hRB⟩ : ∃ RB, Row ((w3.alloc (.cells #[.int .i64 n.k, .int .i64 n.z, .slice A NL c] 24)).alloc (.cells #[] 32)) RB A (erows n.es) := by
              obtain ⟨_, _, e1, _, _, h4⟩ := V3'.out
              cases e1
              exact ⟨_, h4⟩
            have ROW := Lib.hid hRB
            clear hRB V3'
            go_wp2_with (first
              | (with_reducible refine wpl_seg_load aggI sizeI (.tmp 3) rfl rfl C3.out 0 [.int .i64 n.k, .int .i64 n.z, .slice A NL c] rfl rfl rfl ?_)
              | (at_builtin; (refine wpl_append_ents hi hz rfl hs hby rfl (.tmp 37) (.tmp 39) rfl rfl rfl O3.out A NL c n.es HNL.out rfl RB ROW.out (by simp only [List.length_nil]; omega) (by simp) NL (by simp) ?_); intro A4 c4 w4 O4 g4; rw [List.nil_append] at O4; have N4 : (some w3.heap.size : Option Nat) ≠ (Value.slice (some ⟨w3.heap.size + 1, 0, none⟩) 0 0).ownBlock := (by simp [Value.ownBlock]); have B4 := Lib.hid (B4'.out.grown g4 N4); have c4x : w4.cell? ⟨w3.heap.size, 2, none⟩ = some (.slice A NL c) := B4.out.cell 2; have f4x := B4.out.free 2; have B5 := Lib.hid (B4.out.set 2 (.slice A4 NL c4)); have HO4 := Lib.hid O4; have HG4 := Lib.hid g4; clear O4 g4 N4 c3)
              | (with_reducible refine wpl_seg_load aggI sizeI (.tmp 7) rfl rfl B5.out 0 [.int .i64 n.k, .int .i64 n.z, .slice A4 NL c4] rfl rfl rfl ?_))
            have H4 := Lib.hid (H3.out.grown HG4.out H3.out.size fun q e => Nat.le_of_succ_le (World.ownsRow.lt O3.out q e).1)
            have s5 := only_set w4 ⟨w3.heap.size, 2, none⟩ (.slice A4 NL c4)
            have H5 := Lib.hid (H4.out.grown s5 H4.out.size fun q e => by cases e; exact Nat.le_refl _)
            have O5 := Lib.hid (kept2e HO4.out s5 (fun e => by have h : w3.heap.size + 1 ≤ w3.heap.size := (World.ownsRow.lt HO4.out _ e).1; omega))
            have V5 := Lib.hid ((V3.out.below H5.out).more H5.out.size)
            have C5 := Lib.hid (C3.out.below H5.out L3.out)
            have T5 := Lib.hid (T3.out.trans (H5.out.mono T3.out.size))
            have D5 : Hid (Blk (w4.setCell ⟨w3.heap.size, 2, none⟩ (.slice A4 NL c4)) w3.heap.size 24 [.int .i64 n.k, .int .i64 n.z, .slice A4 NL c4]) := B5
            generalize w4.setCell ⟨w3.heap.size, 2, none⟩ (.slice A4 NL c4) = W5 at O5 V5 C5 T5 D5 ⊢
            clear H5 s5 H4 HG4 HO4 B5 B4 c4x f4x ROW O3 T3 B4' C3 H3 V3 C4
            obtain ⟨g3, hg3⟩ : ∃ g3, w3.heap.size = g3 := ⟨_, rfl⟩
            rw [hg3] at O5 D5 LT3 L3 ⊢
            clear hg3
            have E5 := Lib.hid O5.out.ents
            clear O5
            have KW := Lib.hid (with_any n _ _ more W5 E5.out ((MO.out.below T5.out).more T5.out.size) (by rw [HML.out]; omega))
            refine KW.out.mono ?_
            rintro e w6 ⟨⟨A6, c6, rfl, O6⟩, b6⟩
            obtain ⟨RW, hRW⟩ : ∃ RW, RW = withI n more := ⟨_, rfl⟩
            have HRW := Lib.hid hRW
            rw [← hRW] at O6 ⊢
            have E6 := Lib.hid O6.ents
            have E6i := Lib.hid (E5.out.after b6)
            have V6 := Lib.hid (V5.out.after b6)
            have C6 := Lib.hid (C5.out.after b6)
            have D6 := Lib.hid (D5.out.after b6)
            have T6 := Lib.hid (T5.out.trans (b6.mono T5.out.size))
            clear KW b6 O6 E5 V5 C5 D5 T5 hRW
            obtain ⟨⟨⟨rk, rz, res⟩, re⟩, hrr⟩ : ∃ r, r = RW := ⟨_, rfl⟩
            rw [← hrr] at E6 HRW ⊢
            clear hrr RW
            simp only at E6 HRW ⊢
            obtain ⟨RN, hRN⟩ : ∃ RN, res.length = RN := ⟨_, rfl⟩
            have HRN := Lib.hid hRN
            rw [hRN] at E6 ⊢
            clear hRN
            have c62 : ∀ o, (w6.alloc o).cell? ⟨g1, 2, none⟩ = some (.slice A NL c) := fun o => (C6.out.alloc o).cell 2
            have c60 : ∀ o, (w6.alloc o).cell? ⟨g1, 0, none⟩ = some (.int .i64 n.k) := fun o => (C6.out.alloc o).cell 0
            have c61 : ∀ o, (w6.alloc o).cell? ⟨g1, 1, none⟩ = some (.int .i64 n.z) := fun o => (C6.out.alloc o).cell 1
            have X7 := Lib.hid ((Blk.new3e w6 (.int .i64 rk) (.int .i64 rz) (.slice A6 RN c6) 24).alloc (.cells #[.int .i64 n.k, .int .i64 n.z, .slice A NL c] 24))
            have Y0 := Blk.new3e (w6.alloc (.cells #[.int .i64 rk, .int .i64 rz, .slice A6 RN c6] 24)) (.int .i64 n.k) (.int .i64 n.z) (.slice A NL c) 24
            rw [World.size_alloc] at Y0
            have Y7 := Lib.hid Y0
            have H7 : Hid (Below w6.heap.size w6 ((w6.alloc (.cells #[.int .i64 rk, .int .i64 rz, .slice A6 RN c6] 24)).alloc (.cells #[.int .i64 n.k, .int .i64 n.z, .slice A NL c] 24))) := Lib.hid (((Below.refl w6.heap.size w6).alloc (Nat.le_refl _) (.cells #[.int .i64 rk, .int .i64 rz, .slice A6 RN c6] 24)).alloc (by simp) (.cells #[.int .i64 n.k, .int .i64 n.z, .slice A NL c] 24))
            have L6 : Hid (g1 < w6.heap.size ∧ g3 < w6.heap.size) := Lib.hid ⟨C6.out.lt, D6.out.lt⟩
            clear Y0
            go_upto_region 9 with (fail)
            clear c60 c61 c62
            obtain ⟨W7, hW7⟩ : ∃ W7, W7 = (w6.alloc (.cells #[.int .i64 rk, .int .i64 rz, .slice A6 RN c6] 24)).alloc (.cells #[.int .i64 n.k, .int .i64 n.z, .slice A NL c] 24) := ⟨_, rfl⟩
            have SZ7 : Hid (W7.heap.size = w6.heap.size + 2) := Lib.hid (by rw [hW7]; simp)
            rw [← hW7] at X7 Y7 H7 ⊢
            obtain ⟨g8, hg8⟩ : ∃ g8, g8 = w6.heap.size := ⟨_, rfl⟩
            have HG8 := Lib.hid hg8
            rw [← hg8] at X7 Y7 SZ7 L6 ⊢
            clear hW7 hg8
            have C7 := Lib.hid (C6.out.after H7.out)
            have D7 := Lib.hid (D6.out.after H7.out)
            have V7 := Lib.hid (V6.out.after H7.out)
            have T7 := Lib.hid (T6.out.trans (H7.out.mono T6.out.size))
            clear L3 LT3
            go_cut [67] (fun s67 wx => s67 = .bool (decide (ML = 0 ∧ ¬ n.dir)) ∧ Hid (Below W7.heap.size W7 wx))
            case first =>
              by_cases hm0 : ML = 0
              · subst hm0
                by_cases hk2 : n.k = 2
                · have c70 : W7.cell? ⟨g1, 0, none⟩ = some (.int .i64 2) := by rw [← hk2]; exact C7.out.cell 0
                  have KR := Lib.hid (irefRight_any n _ W7 V7.out)
                  rw [dir_iff n hk2] at KR
                  obtain ⟨d, hd⟩ : ∃ d, d = decide n.dir := ⟨_, rfl⟩
                  have HD : Hid (decide ((0 : Nat) = 0 ∧ ¬ n.dir) = !d) := Lib.hid (by rw [hd]; simp)
                  rw [← hd] at KR
                  clear hk2 hd
                  go_wp2_with (first | (with_reducible refine wpl_seg_load aggI sizeI (.tmp 3) rfl rfl C7.out 0 [.int .i64 n.k, .int .i64 n.z, .slice A NL c] rfl rfl rfl ?_) | ((with_reducible refine KR.out.mono ?_); rintro e w8 ⟨rfl, b8⟩))
                  go_meet
                  exact ⟨by rw [HD.out], Lib.hid b8⟩
                · have c70 : W7.cell? ⟨g1, 0, none⟩ = some (.int .i64 n.k) := C7.out.cell 0
                  have HD : Hid (decide ((0 : Nat) = 0 ∧ ¬ n.dir) = true) := Lib.hid (by simp; exact fun h => hk2 h.1)
                  have hkk : (n.k != 2) = true := by simpa using hk2
                  go_wp2_with fail
                  go_meet
                  exact ⟨by rw [HD.out], Lib.hid (Below.refl _ _)⟩
              · have HD : Hid (decide (ML = 0 ∧ ¬ n.dir) = false) := Lib.hid (by simp [hm0])
                have hm1 : ((ML : Int) == 0) = false := by simp; omega
                go_wp2_with fail
                go_meet
                exact ⟨by rw [HD.out], Lib.hid (Below.refl _ _)⟩
            case rest =>
              obtain ⟨rfl, hb7⟩ := hcut
              have E7 := Lib.hid ((E6.out.after H7.out))
              have M7 := Lib.hid (E6i.out.after H7.out)
              obtain ⟨sb, hsb⟩ : ∃ sb, sb = decide (ML = 0 ∧ ¬ n.dir) := ⟨_, rfl⟩
              have HST : Hid (startI n more = if sb = true then (⟨0, 0, []⟩, 63) else (n, 0)) := Lib.hid (by
                unfold startI
                rw [HML.out, hsb]
                by_cases h : ML = 0 ∧ ¬ n.dir
                · rw [if_pos h, if_pos (decide_eq_true h)]
                · rw [if_neg h, if_neg (by rw [decide_eq_false h]; simp)])
              rw [← hsb]
              have ZO := Lib.hid zI_one
              clear hsb
              go_upto_if 67 with (fail)
              go_cut [11] (fun s11 wx => ∃ (P : IN × Int) (Ay : Option Addr) (cy Ny : Nat), s11 = .int .i64 P.2 ∧ Hid (P = startI n more) ∧ Hid (P.1.es.length = Ny) ∧ Hid (Blk wx (g8 + 1) 24 [.int .i64 P.1.k, .int .i64 P.1.z, .slice Ay Ny cy]) ∧ Hid (Ents wx wx.heap.size (.slice Ay Ny cy) P.1.es) ∧ Hid (Ny ≤ 40) ∧ Hid (Below (g8 + 1) W7 wx))
              case first =>
                cases sb with
                | true =>
                  have Y8 := Lib.hid (Y7.out.after hb7.out)
                  go_wp2_with ((with_reducible refine wpl_seg_store sizeI (.tmp 10) (.tmp 68) rfl rfl Y8.out 0 [.int .i64 0, .int .i64 0, .slice none 0 0] rfl (Nat.le_refl _) ZO.out rfl rfl _ rfl ?_); intro w9 B9 g9 e9)
                  go_meet
                  exact ⟨(⟨0, 0, []⟩, 63), none, 0, 0, rfl, Lib.hid (by rw [HST.out]; simp), Lib.hid rfl, Lib.hid B9, Lib.hid (Ents.nil 0 (by simp [maxLen])), Lib.hid (by omega), Lib.hid (((hb7.out.mono (by have := SZ7.out; omega)).grown g9 (by have := SZ7.out; have := hb7.out.size; omega) (fun k e => by cases e; exact Nat.le_refl _)))⟩
                | false =>
                  go_wp2_with fail
                  go_meet
                  exact ⟨(n, 0), A, c, NL, rfl, Lib.hid (by rw [HST.out]; simp), HNL, Lib.hid (Y7.out.after hb7.out), Lib.hid (V7.out.after hb7.out), Lib.hid hlen, Lib.hid (hb7.out.mono (by have := SZ7.out; omega))⟩
              case rest =>
                clear HST hb7 Y7
                obtain ⟨P, Ay, cy, Ny, rfl, hP, hPN, hY, hYE, hN4, hW⟩ := hcut
                have LW7 : Hid (w.heap.size ≤ g8 + 1) := Lib.hid (by have := T6.out.size; have := HG8.out; omega)
                go_wp2_with fail
                go_loopw [11, 71] (fun s11 i wx => ∃ (q : Nat) (Q : IN × Int) (Az : Option Addr) (cz Nz : Nat), q ≤ ML ∧ s11 = .int .i64 Q.2 ∧ i = .int .i64 q ∧ Hid (Q = (more.take q).foldl stepI (startI n more)) ∧ Hid (Q.1.es.length = Nz) ∧ Hid (Blk wx (g8 + 1) 24 [.int .i64 Q.1.k, .int .i64 Q.1.z, .slice Az Nz cz]) ∧ Hid (Ents wx wx.heap.size (.slice Az Nz cz) Q.1.es) ∧ Hid (Nz ≤ 40) ∧ Hid (Below (g8 + 1) W7 wx)) (fun _ i _ => ML - (intOf i).toNat)
                case atStart => exact ⟨0, P, Ay, cy, Ny, by omega, rfl, rfl, Lib.hid (by rw [hP.out]; rfl), hPN, hY, hYE, hN4, hW⟩
                case round =>
                  clear hP hPN hY hYE hN4 hW
                  obtain ⟨q, Q, Az, cz, Nz, hq, rfl, rfl, hQ, hQN, hY, hYE, hN4, hW⟩ := hrel
                  by_cases hlt : q < ML
                  · have hqm : q < more.length := by have := HML.out; omega
                    obtain ⟨a, rfl, _, hck⟩ := ((MO.out.below T7.out).below (hW.out.mono LW7.out)).elem (atE_get hqm)
                    obtain ⟨x, hx⟩ : ∃ x, x = atE more q := ⟨_, rfl⟩
                    rw [← hx] at hck
                    have HCK := Lib.hid (show ∀ j u, ([.string x.n, .int .i64 x.i] : List Value)[j]? = some u → wr.cell? ((a.add (q * 2)).add j) = some u from hck)
                    have HNX := Lib.hid (fold_next hqm (startI n more))
                    rw [← hx, ← hQ.out] at HNX
                    have W8 := Lib.hid ((Below.refl wr.heap.size wr).alloc (Nat.le_refl _) (.cells #[.string x.n, .int .i64 x.i] 32))
                    have Y8 := Lib.hid (hY.out.after W8.out)
                    have YE8 := Lib.hid (hYE.out.after W8.out)
                    obtain ⟨⟨yk, yz, yes⟩, ye⟩ := Q
                    simp only at hQN hY hYE Y8 YE8 HNX ⊢
                    clear hck hx hQ
                    by_cases h0 : ye = 0
                    · subst h0
                      have KW := Lib.hid (refWith_any ⟨yk, yz, yes⟩ _ x _ YE8.out (by rw [hQN.out]; have := hN4.out; omega))
                      have hl1 := withI_len ⟨yk, yz, yes⟩ x
                      have hst : stepI (⟨yk, yz, yes⟩, 0) x = withI ⟨yk, yz, yes⟩ [x] := rfl
                      rw [hst] at HNX
                      obtain ⟨⟨⟨zk, zz, zes⟩, ze⟩, hZ⟩ : ∃ Z, Z = withI ⟨yk, yz, yes⟩ [x] := ⟨_, rfl⟩
                      rw [← hZ] at KW hl1 HNX
                      unfold WithP at KW
                      simp only at KW hl1
                      obtain ⟨zn, hzn⟩ : ∃ zn, zes.length = zn := ⟨_, rfl⟩
                      rw [hzn] at KW hl1
                      have HZN := Lib.hid hzn
                      have HL1 := Lib.hid hl1
                      clear hst hZ hzn hl1
                      go_wp2_with (first
                        | (with_reducible refine wpl_cells (q := a.add (q * 2)) (row := [.string x.n, .int .i64 x.i]) aggE sizeE (.tmp 73) rfl rfl rfl rfl HCK.out ?_)
                        | (with_reducible refine wpl_seg_load aggI sizeI (.tmp 10) rfl rfl Y8.out 0 [.int .i64 yk, .int .i64 yz, .slice Az Nz cz] rfl rfl rfl ?_)
                        | ((with_reducible refine KW.out.mono ?_); rintro e w9 ⟨⟨A9', c9', rfl, O9⟩, b9⟩; have Y9 := Lib.hid (Y8.out.after b9); have HO9 := Lib.hid O9; have BB9 := Lib.hid b9; clear O9 b9)
                        | ((with_reducible refine wpl_seg_store sizeI (.tmp 10) (.tmp 81) rfl rfl Y9.out 0 [.int .i64 zk, .int .i64 zz, .slice A9' zn c9'] rfl (Nat.le_refl _) (by simp [Value.oneCell']) rfl rfl _ rfl ?_); intro w10 B10 g10 e10))
                      have hYl := hY.out.lt
                      have hsz : wr.heap.size ≤ (wr.alloc (.cells #[.string x.n, .int .i64 x.i] 32)).heap.size := W8.out.size
                      have O10 : OwnE w10 _ (.slice A9' zn c9') zes := OwnE.grown HO9.out (by omega) g10
                      have b10 : Below (g8 + 1) W7 w10 := (hW.out.trans ((W8.out.trans (BB9.out.mono W8.out.size)).mono (by omega))).grown g10 (by have := BB9.out.size; have := SZ7.out; omega) (fun k e => by cases e; exact Nat.le_refl _)
                      have e10' := O10.ents
                      exact ⟨⟨q + 1, (⟨zk, zz, zes⟩, ze), A9', c9', zn, by omega, rfl, by go_num, Lib.hid HNX.out.symm, HZN, Lib.hid B10, Lib.hid e10', HL1, Lib.hid b10⟩, by simp [intOf]; omega⟩
                    · have h0' : (ye == 0) = false := by simpa using h0
                      have hst : Hid (stepI (⟨yk, yz, yes⟩, ye) x = (⟨yk, yz, yes⟩, ye)) := Lib.hid (by unfold stepI; rw [if_neg h0])
                      go_wp2_with (with_reducible refine wpl_cells (q := a.add (q * 2)) (row := [.string x.n, .int .i64 x.i]) aggE sizeE (.tmp 73) rfl rfl rfl rfl HCK.out ?_)
                      exact ⟨⟨q + 1, (⟨yk, yz, yes⟩, ye), Az, cz, Nz, by omega, rfl, by go_num, Lib.hid (by rw [HNX.out, hst.out]), hQN, Y8, YE8, hN4, Lib.hid (hW.out.trans (W8.out.mono (by have := hY.out.lt; omega)))⟩, by simp [intOf]; omega⟩
                  · obtain rfl : q = ML := by omega
                    have hQW : Q = (⟨rk, rz, res⟩, re) := by
                      rw [hQ.out, HRW.out, ← fold_all, List.take_of_length_le (by rw [HML.out]; exact Nat.le_refl _)]
                    have HQW := Lib.hid hQW
                    obtain rfl := hQW
                    have hNz : Hid (Nz = RN) := Lib.hid (by rw [← hQN.out]; exact HRN.out)
                    obtain rfl := hNz.out
                    simp only at hY hYE ⊢
                    have X9 := Lib.hid (X7.out.below hW.out (by omega))
                    have C9 := Lib.hid (C7.out.below hW.out (by have := L6.out; omega))
                    have D9 := Lib.hid (D7.out.below hW.out (by have := L6.out; omega))
                    have B6r : Below w6.heap.size w6 wr := H7.out.trans (hW.out.mono (by have := HG8.out; omega))
                    have E9 := Lib.hid ((E6.out.below B6r).more B6r.size)
                    have I9 := Lib.hid ((E6i.out.below B6r).more B6r.size)
                    have V9 := Lib.hid ((V6.out.below B6r).more B6r.size)
                    have T9 := Lib.hid (T6.out.trans (B6r.mono T6.out.size))
                    have YE9 := Lib.hid hYE.out
                    have Y9 := Lib.hid hY.out
                    have KS1 := Lib.hid (same_yes ⟨rk, rz, res⟩ _ _ wr E9.out YE9.out)
                    have dre : (re != re) = false := by simp
                    clear hY hYE hW B6r E6 E6i V6 T6 C6 D6 X7 C7 D7 V7 T7 H7 E7 M7 hN4 hQN HML hNz HRW HQW MO hQ hq hlt HG8 SZ7 LW7
                    go_wp2_with (first | (with_reducible refine wpl_seg_load aggI sizeI (.tmp 8) rfl rfl X9.out 0 [.int .i64 rk, .int .i64 rz, .slice A6 Nz c6] rfl rfl rfl ?_) | (with_reducible refine wpl_seg_load aggI sizeI (.tmp 10) rfl rfl Y9.out 0 [.int .i64 rk, .int .i64 rz, .slice Az Nz cz] rfl rfl rfl ?_))
                    refine KS1.out.mono ?_
                    rintro e wa ⟨rfl, ba⟩
                    have Ca := Lib.hid (C9.out.after ba)
                    have Da := Lib.hid (D9.out.after ba)
                    have Ia := Lib.hid (I9.out.after ba)
                    have Va := Lib.hid (V9.out.after ba)
                    have Ta := Lib.hid (T9.out.trans (ba.mono T9.out.size))
                    have KS2 := Lib.hid (same_yes n _ _ wa Ia.out Va.out)
                    clear ba C9 D9 I9 V9 T9 KS1 X9 E9 YE9 Y9
                    go_wp2_with (first | (with_reducible refine wpl_seg_load aggI sizeI (.tmp 7) rfl rfl Da.out 0 [.int .i64 n.k, .int .i64 n.z, .slice A4 NL c4] rfl rfl rfl ?_) | (with_reducible refine wpl_seg_load aggI sizeI (.tmp 3) rfl rfl Ca.out 0 [.int .i64 n.k, .int .i64 n.z, .slice A NL c] rfl rfl rfl ?_))
                    refine KS2.out.mono ?_
                    rintro e wb ⟨rfl, bb⟩
                    have Cb := Lib.hid (Ca.out.after bb)
                    have Db := Lib.hid (Da.out.after bb)
                    have Ib := Lib.hid (Ia.out.after bb)
                    have Vb := Lib.hid (Va.out.after bb)
                    have Tb := Lib.hid (Ta.out.trans (bb.mono Ta.out.size))
                    clear bb Ca Da Ia Va Ta KS2
                    go_wp2_with fail
                    have KWO : Hid (∀ w', Below wb.heap.size wb w' → Calls Try.prog 15 #[.agg #[.int .i64 n.k, .int .i64 n.z, .slice A4 NL c4], .slice A8 XL c8] w' fun e w2 => ∃ m, Hid ((wo n.es xs).length = m) ∧ ∃ A c, e = .returned (.agg #[.int .i64 n.k, .int .i64 n.z, .slice A m c]) ∧ Hid (OwnE w2 w'.heap.size (.slice A m c) (wo n.es xs)) ∧ Below w'.heap.size w' w2) := Lib.hid (fun w' hb => iwithout_any n _ _ xs w' (Ib.out.after hb) (by rw [HNL.out]; omega) ((XO.out.below (Tb.out.trans (hb.mono Tb.out.size))).more (Nat.le_trans Tb.out.size hb.size)) (by rw [HXL.out]; omega))
                    have H := Lib.hid ((Below.refl wb.heap.size wb).drew)
                    go_cut [14, 15] (fun s14 s15 wx => ∃ ga gb mu Au cu, s14 = .pointer (some ⟨ga, 0, none⟩) ∧ s15 = .pointer (some ⟨gb, 0, none⟩) ∧ Hid ((wo n.es xs).length = mu) ∧ Hid (wb.heap.size ≤ ga ∧ wb.heap.size ≤ gb ∧ ga ≠ gb) ∧ Hid (Blk wx ga 24 [.int .i64 n.k, .int .i64 n.z, .slice Au mu cu]) ∧ Hid (Blk wx gb 24 [.int .i64 n.k, .int .i64 n.z, .slice A NL c]) ∧ (∃ ub, Hid (OwnE wx ub (.slice Au mu cu) (wo n.es xs))) ∧ Hid ((Value.slice Au mu cu).ownBlock ≠ some gb) ∧ Hid (Below wb.heap.size wb wx))
                    case first =>
                      refine wp_region_held_drew (S := (fun w2 => Below wb.heap.size wb w2)) (by kernel_rfl) H.out (fun _ => ?_)
                      refine wpAnyH_take (i := 0) (v := .agg #[.int .i64 n.k, .int .i64 n.z, .slice A4 NL c4]) rfl (by kernel_rfl) (by kernel_rfl) (by kernel_rfl) (fun _ _ _ h => h) (yields_seg aggI sizeI (.tmp 7) (by kernel_rfl) (by kernel_rfl) (by kernel_rfl) (g := g3) (i := 0) (fun w2 h => Db.out.after h) rfl rfl) H.out ?_
                      simp only [Act.put, List.getElem_toArray, List.setIfInBounds_toArray]
                      refine wpAnyH_take (i := 1) (v := .slice A8 XL c8) rfl (by kernel_rfl) (by kernel_rfl) (by kernel_rfl) (fun _ _ _ h => h) (Or.inl ⟨by kernel_rfl, fun w _ => by go_simp⟩) H.out ?_
                      simp only [Act.put, List.getElem_toArray, List.getElem_cons_zero, List.getElem_cons_succ, List.setIfInBounds_toArray, List.set_cons_zero, List.set_cons_succ]
                      refine wpAnyH_take (i := 3) (v := .agg #[.int .i64 n.k, .int .i64 n.z, .slice A NL c]) rfl (by kernel_rfl) (by kernel_rfl) (by kernel_rfl) (fun _ _ _ h => h) (yields_seg aggI sizeI (.tmp 3) (by kernel_rfl) (by kernel_rfl) (by kernel_rfl) (g := g1) (i := 0) (fun w2 h => Cb.out.after h) rfl rfl) H.out ?_
                      simp only [Act.put, List.getElem_toArray, List.setIfInBounds_toArray]
                      generalize wb.drew = wk0 at H ⊢
                      refine wpAnyH_ready (rs := [2, 4, 5]) (by kernel_rfl) (by simp) (AllReadyH.cons rfl (fun K hK => ?_) (AllReadyH.cons rfl (fun K hK => ?_) (AllReadyH.cons rfl (fun K hK => ?_) AllReadyH.nil)))
                      · go_simp
                        ((with_reducible refine (KWO.out _ H.out).mono ?_); rintro e wk1 ⟨mu, hmu, Au, cu, rfl, HO, bu⟩)
                        have H := Lib.hid (H.out.trans (bu.mono H.out.size))
                        refine hK _ _ H.out (fun _ => ?_)
                        clear hK K bu
                        refine wpAnyH_ready (rs := [4, 5]) (by kernel_rfl) (by simp) (AllReadyH.cons rfl (fun K hK => ?_) (AllReadyH.cons rfl (fun K hK => ?_) AllReadyH.nil))
                        · go_simp
                          obtain ⟨wk2, hwk⟩ : ∃ wk, wk = wk1.alloc (.cells #[.int .i64 0, .int .i64 0, .slice none 0 0] 24) := ⟨_, rfl⟩
                          obtain ⟨g4, hgk⟩ : ∃ gk, gk = wk1.heap.size := ⟨_, rfl⟩
                          have G4 : Hid (wb.heap.size ≤ g4) := Lib.hid (by rw [hgk]; exact H.out.size)
                          have F4 : Hid (Blk wk2 g4 24 [.int .i64 0, .int .i64 0, .slice none 0 0]) := Lib.hid (by rw [hwk, hgk]; exact Blk.new wk1 _ _)
                          have N4 : Hid ((Value.slice Au mu cu).ownBlock ≠ some g4) := Lib.hid (fun e => by have := (World.ownsRow.lt HO.out _ e).2; omega)
                          have HO : Hid (OwnE wk2 _ (.slice Au mu cu) (wo n.es xs)) := Lib.hid (by rw [hwk]; exact HO.out.kept ((Below.refl _ _).alloc (Nat.le_refl _) _))
                          have H : Hid (Below wb.heap.size wb wk2) := Lib.hid (by rw [hwk]; exact H.out.alloc H.out.size _)
                          rw [← hwk, ← hgk]
                          refine hK _ _ H.out (fun _ => ?_)
                          clear hK K hwk hgk
                          refine wpAnyH_ready (rs := [5]) (by kernel_rfl) (by simp) (AllReadyH.cons rfl (fun K hK => ?_) AllReadyH.nil)
                          go_simp
                          obtain ⟨wk3, hwk⟩ : ∃ wk, wk = wk2.alloc (.cells #[.int .i64 0, .int .i64 0, .slice none 0 0] 24) := ⟨_, rfl⟩
                          obtain ⟨g5, hgk⟩ : ∃ gk, gk = wk2.heap.size := ⟨_, rfl⟩
                          have NE : Hid (g4 ≠ g5) := Lib.hid (by have := F4.out.lt; omega)
                          have G5 : Hid (wb.heap.size ≤ g5) := Lib.hid (by rw [hgk]; exact H.out.size)
                          have F5 : Hid (Blk wk3 g5 24 [.int .i64 0, .int .i64 0, .slice none 0 0]) := Lib.hid (by rw [hwk, hgk]; exact Blk.new wk2 _ _)
                          have F4 : Hid (Blk wk3 g4 24 [.int .i64 0, .int .i64 0, .slice none 0 0]) := Lib.hid (by rw [hwk]; exact F4.out.alloc _)
                          have N5 : Hid ((Value.slice Au mu cu).ownBlock ≠ some g5) := Lib.hid (fun e => by have := (World.ownsRow.lt HO.out _ e).2; omega)
                          have HO : Hid (OwnE wk3 _ (.slice Au mu cu) (wo n.es xs)) := Lib.hid (by rw [hwk]; exact HO.out.kept ((Below.refl _ _).alloc (Nat.le_refl _) _))
                          have H : Hid (Below wb.heap.size wb wk3) := Lib.hid (by rw [hwk]; exact H.out.alloc H.out.size _)
                          rw [← hwk, ← hgk]
                          refine hK _ _ H.out (fun _ => ?_)
                          clear hK K hwk hgk
                          refine wpAnyH_ready (rs := [6]) (by kernel_rfl) (by simp) (AllReadyH.cons rfl (fun K hK => ?_) AllReadyH.nil)
                          refine step_seg_store sizeI (by kernel_rfl) (.tmp 14) (.tmp 101) (by kernel_rfl) F4.out 0 (vs := [.int .i64 n.k, .int .i64 n.z, .slice Au mu cu]) rfl (Nat.le_refl _) (by simp [Value.oneCell']) (by kernel_rfl) (by kernel_rfl) [.int .i64 n.k, .int .i64 n.z, .slice Au mu cu] rfl ?_
                          intro ws F4' g6 e6
                          have F4 := Lib.hid F4'
                          have F5 := Lib.hid (F5.out.grown g6 (by simp only [ne_eq, Option.some.injEq]; have := NE.out; omega))
                          have HO := Lib.hid (kept2e HO.out g6 N4.out)
                          have H := Lib.hid (H.out.grown g6 H.out.size (fun q e => by cases e; exact G4.out))
                          refine hK _ _ H.out (fun _ => ?_)
                          clear hK K F4' g6 e6
                          refine wpAnyH_ready (rs := [7]) (by kernel_rfl) (by simp) (AllReadyH.cons rfl (fun K hK => ?_) AllReadyH.nil)
                          refine step_seg_store sizeI (by kernel_rfl) (.tmp 15) (.tmp 102) (by kernel_rfl) F5.out 0 (vs := [.int .i64 n.k, .int .i64 n.z, .slice A NL c]) rfl (Nat.le_refl _) (by simp [Value.oneCell']) (by kernel_rfl) (by kernel_rfl) [.int .i64 n.k, .int .i64 n.z, .slice A NL c] rfl ?_
                          intro wt F5' g7 e7
                          have F5 := Lib.hid F5'
                          have F4 := Lib.hid (F4.out.grown g7 (by simp only [ne_eq, Option.some.injEq]; have := NE.out; omega))
                          have HO := Lib.hid (kept2e HO.out g7 N5.out)
                          have H := Lib.hid (H.out.grown g7 H.out.size (fun q e => by cases e; exact G5.out))
                          refine hK _ _ H.out (fun _ => ?_)
                          clear hK K F5' g7 e7
                          refine wpAnyH_done (by kernel_rfl) ?_ _
                          go_wp2_with fail
                          go_meet
                          exact ⟨g4, g5, mu, Au, cu, rfl, rfl, hmu, Lib.hid ⟨G4.out, G5.out, NE.out⟩, F4, F5, ⟨_, HO⟩, N5, H⟩
                        · go_simp
                          obtain ⟨wk2, hwk⟩ : ∃ wk, wk = wk1.alloc (.cells #[.int .i64 0, .int .i64 0, .slice none 0 0] 24) := ⟨_, rfl⟩
                          obtain ⟨g5, hgk⟩ : ∃ gk, gk = wk1.heap.size := ⟨_, rfl⟩
                          have G5 : Hid (wb.heap.size ≤ g5) := Lib.hid (by rw [hgk]; exact H.out.size)
                          have F5 : Hid (Blk wk2 g5 24 [.int .i64 0, .int .i64 0, .slice none 0 0]) := Lib.hid (by rw [hwk, hgk]; exact Blk.new wk1 _ _)
                          have N5 : Hid ((Value.slice Au mu cu).ownBlock ≠ some g5) := Lib.hid (fun e => by have := (World.ownsRow.lt HO.out _ e).2; omega)
                          have HO : Hid (OwnE wk2 _ (.slice Au mu cu) (wo n.es xs)) := Lib.hid (by rw [hwk]; exact HO.out.kept ((Below.refl _ _).alloc (Nat.le_refl _) _))
                          have H : Hid (Below wb.heap.size wb wk2) := Lib.hid (by rw [hwk]; exact H.out.alloc H.out.size _)
                          rw [← hwk, ← hgk]
                          refine hK _ _ H.out (fun _ => ?_)
                          clear hK K hwk hgk
                          refine wpAnyH_ready (rs := [4]) (by kernel_rfl) (by simp) (AllReadyH.cons rfl (fun K hK => ?_) AllReadyH.nil)
                          go_simp
                          obtain ⟨wk3, hwk⟩ : ∃ wk, wk = wk2.alloc (.cells #[.int .i64 0, .int .i64 0, .slice none 0 0] 24) := ⟨_, rfl⟩
                          obtain ⟨g4, hgk⟩ : ∃ gk, gk = wk2.heap.size := ⟨_, rfl⟩
                          have NE : Hid (g4 ≠ g5) := Lib.hid (by have := F5.out.lt; omega)
                          have G4 : Hid (wb.heap.size ≤ g4) := Lib.hid (by rw [hgk]; exact H.out.size)
                          have F4 : Hid (Blk wk3 g4 24 [.int .i64 0, .int .i64 0, .slice none 0 0]) := Lib.hid (by rw [hwk, hgk]; exact Blk.new wk2 _ _)
                          have F5 : Hid (Blk wk3 g5 24 [.int .i64 0, .int .i64 0, .slice none 0 0]) := Lib.hid (by rw [hwk]; exact F5.out.alloc _)
                          have N4 : Hid ((Value.slice Au mu cu).ownBlock ≠ some g4) := Lib.hid (fun e => by have := (World.ownsRow.lt HO.out _ e).2; omega)
                          have HO : Hid (OwnE wk3 _ (.slice Au mu cu) (wo n.es xs)) := Lib.hid (by rw [hwk]; exact HO.out.kept ((Below.refl _ _).alloc (Nat.le_refl _) _))
                          have H : Hid (Below wb.heap.size wb wk3) := Lib.hid (by rw [hwk]; exact H.out.alloc H.out.size _)
                          rw [← hwk, ← hgk]
                          refine hK _ _ H.out (fun _ => ?_)
                          clear hK K hwk hgk
                          refine wpAnyH_ready (rs := [6]) (by kernel_rfl) (by simp) (AllReadyH.cons rfl (fun K hK => ?_) AllReadyH.nil)
                          refine step_seg_store sizeI (by kernel_rfl) (.tmp 14) (.tmp 101) (by kernel_rfl) F4.out 0 (vs := [.int .i64 n.k, .int .i64 n.z, .slice Au mu cu]) rfl (Nat.le_refl _) (by simp [Value.oneCell']) (by kernel_rfl) (by kernel_rfl) [.int .i64 n.k, .int .i64 n.z, .slice Au mu cu] rfl ?_
                          intro ws F4' g6 e6
                          have F4 := Lib.hid F4'
                          have F5 := Lib.hid (F5.out.grown g6 (by simp only [ne_eq, Option.some.injEq]; have := NE.out; omega))
                          have HO := Lib.hid (kept2e HO.out g6 N4.out)
                          have H := Lib.hid (H.out.grown g6 H.out.size (fun q e => by cases e; exact G4.out))
                          refine hK _ _ H.out (fun _ => ?_)
                          clear hK K F4' g6 e6
                          refine wpAnyH_ready (rs := [7]) (by kernel_rfl) (by simp) (AllReadyH.cons rfl (fun K hK => ?_) AllReadyH.nil)
                          refine step_seg_store sizeI (by kernel_rfl) (.tmp 15) (.tmp 102) (by kernel_rfl) F5.out 0 (vs := [.int .i64 n.k, .int .i64 n.z, .slice A NL c]) rfl (Nat.le_refl _) (by simp [Value.oneCell']) (by kernel_rfl) (by kernel_rfl) [.int .i64 n.k, .int .i64 n.z, .slice A NL c] rfl ?_
                          intro wt F5' g7 e7
                          have F5 := Lib.hid F5'
                          have F4 := Lib.hid (F4.out.grown g7 (by simp only [ne_eq, Option.some.injEq]; have := NE.out; omega))
                          have HO := Lib.hid (kept2e HO.out g7 N5.out)
                          have H := Lib.hid (H.out.grown g7 H.out.size (fun q e => by cases e; exact G5.out))
                          refine hK _ _ H.out (fun _ => ?_)
                          clear hK K F5' g7 e7
                          refine wpAnyH_done (by kernel_rfl) ?_ _
                          go_wp2_with fail
                          go_meet
                          exact ⟨g4, g5, mu, Au, cu, rfl, rfl, hmu, Lib.hid ⟨G4.out, G5.out, NE.out⟩, F4, F5, ⟨_, HO⟩, N5, H⟩
                      · go_simp
                        obtain ⟨wk1, hwk⟩ : ∃ wk, wk = wk0.alloc (.cells #[.int .i64 0, .int .i64 0, .slice none 0 0] 24) := ⟨_, rfl⟩
                        obtain ⟨g4, hgk⟩ : ∃ gk, gk = wk0.heap.size := ⟨_, rfl⟩
                        have G4 : Hid (wb.heap.size ≤ g4) := Lib.hid (by rw [hgk]; exact H.out.size)
                        have F4 : Hid (Blk wk1 g4 24 [.int .i64 0, .int .i64 0, .slice none 0 0]) := Lib.hid (by rw [hwk, hgk]; exact Blk.new wk0 _ _)
                        have H : Hid (Below wb.heap.size wb wk1) := Lib.hid (by rw [hwk]; exact H.out.alloc H.out.size _)
                        rw [← hwk, ← hgk]
                        refine hK _ _ H.out (fun _ => ?_)
                        clear hK K hwk hgk
                        refine wpAnyH_ready (rs := [2, 5]) (by kernel_rfl) (by simp) (AllReadyH.cons rfl (fun K hK => ?_) (AllReadyH.cons rfl (fun K hK => ?_) AllReadyH.nil))
                        · go_simp
                          have L4 := F4.out.lt
                          ((with_reducible refine (KWO.out _ H.out).mono ?_); rintro e wk2 ⟨mu, hmu, Au, cu, rfl, HO, bu⟩)
                          have N4 : Hid ((Value.slice Au mu cu).ownBlock ≠ some g4) := Lib.hid (fun e => by have := (World.ownsRow.lt HO.out _ e).1; omega)
                          have F4 := Lib.hid (F4.out.after bu)
                          have H := Lib.hid (H.out.trans (bu.mono H.out.size))
                          refine hK _ _ H.out (fun _ => ?_)
                          clear hK K bu
                          refine wpAnyH_ready (rs := [5]) (by kernel_rfl) (by simp) (AllReadyH.cons rfl (fun K hK => ?_) AllReadyH.nil)
                          go_simp
                          obtain ⟨wk3, hwk⟩ : ∃ wk, wk = wk2.alloc (.cells #[.int .i64 0, .int .i64 0, .slice none 0 0] 24) := ⟨_, rfl⟩
                          obtain ⟨g5, hgk⟩ : ∃ gk, gk = wk2.heap.size := ⟨_, rfl⟩
                          have NE : Hid (g4 ≠ g5) := Lib.hid (by have := F4.out.lt; omega)
                          have G5 : Hid (wb.heap.size ≤ g5) := Lib.hid (by rw [hgk]; exact H.out.size)
                          have F5 : Hid (Blk wk3 g5 24 [.int .i64 0, .int .i64 0, .slice none 0 0]) := Lib.hid (by rw [hwk, hgk]; exact Blk.new wk2 _ _)
                          have F4 : Hid (Blk wk3 g4 24 [.int .i64 0, .int .i64 0, .slice none 0 0]) := Lib.hid (by rw [hwk]; exact F4.out.alloc _)
                          have N5 : Hid ((Value.slice Au mu cu).ownBlock ≠ some g5) := Lib.hid (fun e => by have := (World.ownsRow.lt HO.out _ e).2; omega)
                          have HO : Hid (OwnE wk3 _ (.slice Au mu cu) (wo n.es xs)) := Lib.hid (by rw [hwk]; exact HO.out.kept ((Below.refl _ _).alloc (Nat.le_refl _) _))
                          have H : Hid (Below wb.heap.size wb wk3) := Lib.hid (by rw [hwk]; exact H.out.alloc H.out.size _)
                          rw [← hwk, ← hgk]
                          refine hK _ _ H.out (fun _ => ?_)
                          clear hK K hwk hgk
                          refine wpAnyH_ready (rs := [6]) (by kernel_rfl) (by simp) (AllReadyH.cons rfl (fun K hK => ?_) AllReadyH.nil)
                          refine step_seg_store sizeI (by kernel_rfl) (.tmp 14) (.tmp 101) (by kernel_rfl) F4.out 0 (vs := [.int .i64 n.k, .int .i64 n.z, .slice Au mu cu]) rfl (Nat.le_refl _) (by simp [Value.oneCell']) (by kernel_rfl) (by kernel_rfl) [.int .i64 n.k, .int .i64 n.z, .slice Au mu cu] rfl ?_
                          intro ws F4' g6 e6
                          have F4 := Lib.hid F4'
                          have F5 := Lib.hid (F5.out.grown g6 (by simp only [ne_eq, Option.some.injEq]; have := NE.out; omega))
                          have HO := Lib.hid (kept2e HO.out g6 N4.out)
                          have H := Lib.hid (H.out.grown g6 H.out.size (fun q e => by cases e; exact G4.out))
                          refine hK _ _ H.out (fun _ => ?_)
                          clear hK K F4' g6 e6
                          refine wpAnyH_ready (rs := [7]) (by kernel_rfl) (by simp) (AllReadyH.cons rfl (fun K hK => ?_) AllReadyH.nil)
                          refine step_seg_store sizeI (by kernel_rfl) (.tmp 15) (.tmp 102) (by kernel_rfl) F5.out 0 (vs := [.int .i64 n.k, .int .i64 n.z, .slice A NL c]) rfl (Nat.le_refl _) (by simp [Value.oneCell']) (by kernel_rfl) (by kernel_rfl) [.int .i64 n.k, .int .i64 n.z, .slice A NL c] rfl ?_
                          intro wt F5' g7 e7
                          have F5 := Lib.hid F5'
                          have F4 := Lib.hid (F4.out.grown g7 (by simp only [ne_eq, Option.some.injEq]; have := NE.out; omega))
                          have HO := Lib.hid (kept2e HO.out g7 N5.out)
                          have H := Lib.hid (H.out.grown g7 H.out.size (fun q e => by cases e; exact G5.out))
                          refine hK _ _ H.out (fun _ => ?_)
                          clear hK K F5' g7 e7
                          refine wpAnyH_done (by kernel_rfl) ?_ _
                          go_wp2_with fail
                          go_meet
                          exact ⟨g4, g5, mu, Au, cu, rfl, rfl, hmu, Lib.hid ⟨G4.out, G5.out, NE.out⟩, F4, F5, ⟨_, HO⟩, N5, H⟩
                        · go_simp
                          obtain ⟨wk2, hwk⟩ : ∃ wk, wk = wk1.alloc (.cells #[.int .i64 0, .int .i64 0, .slice none 0 0] 24) := ⟨_, rfl⟩
                          obtain ⟨g5, hgk⟩ : ∃ gk, gk = wk1.heap.size := ⟨_, rfl⟩
                          have NE : Hid (g4 ≠ g5) := Lib.hid (by have := F4.out.lt; omega)
                          have G5 : Hid (wb.heap.size ≤ g5) := Lib.hid (by rw [hgk]; exact H.out.size)
                          have F5 : Hid (Blk wk2 g5 24 [.int .i64 0, .int .i64 0, .slice none 0 0]) := Lib.hid (by rw [hwk, hgk]; exact Blk.new wk1 _ _)
                          have F4 : Hid (Blk wk2 g4 24 [.int .i64 0, .int .i64 0, .slice none 0 0]) := Lib.hid (by rw [hwk]; exact F4.out.alloc _)
                          have H : Hid (Below wb.heap.size wb wk2) := Lib.hid (by rw [hwk]; exact H.out.alloc H.out.size _)
                          rw [← hwk, ← hgk]
                          refine hK _ _ H.out (fun _ => ?_)
                          clear hK K hwk hgk
                          refine wpAnyH_ready (rs := [2]) (by kernel_rfl) (by simp) (AllReadyH.cons rfl (fun K hK => ?_) AllReadyH.nil)
                          go_simp
                          have L4 := F4.out.lt
                          have L5 := F5.out.lt
                          ((with_reducible refine (KWO.out _ H.out).mono ?_); rintro e wk3 ⟨mu, hmu, Au, cu, rfl, HO, bu⟩)
                          have N4 : Hid ((Value.slice Au mu cu).ownBlock ≠ some g4) := Lib.hid (fun e => by have := (World.ownsRow.lt HO.out _ e).1; omega)
                          have F4 := Lib.hid (F4.out.after bu)
                          have N5 : Hid ((Value.slice Au mu cu).ownBlock ≠ some g5) := Lib.hid (fun e => by have := (World.ownsRow.lt HO.out _ e).1; omega)
                          have F5 := Lib.hid (F5.out.after bu)
                          have H := Lib.hid (H.out.trans (bu.mono H.out.size))
                          refine hK _ _ H.out (fun _ => ?_)
                          clear hK K bu
                          refine wpAnyH_ready (rs := [6]) (by kernel_rfl) (by simp) (AllReadyH.cons rfl (fun K hK => ?_) AllReadyH.nil)
                          refine step_seg_store sizeI (by kernel_rfl) (.tmp 14) (.tmp 101) (by kernel_rfl) F4.out 0 (vs := [.int .i64 n.k, .int .i64 n.z, .slice Au mu cu]) rfl (Nat.le_refl _) (by simp [Value.oneCell']) (by kernel_rfl) (by kernel_rfl) [.int .i64 n.k, .int .i64 n.z, .slice Au mu cu] rfl ?_
                          intro ws F4' g6 e6
                          have F4 := Lib.hid F4'
                          have F5 := Lib.hid (F5.out.grown g6 (by simp only [ne_eq, Option.some.injEq]; have := NE.out; omega))
                          have HO := Lib.hid (kept2e HO.out g6 N4.out)
                          have H := Lib.hid (H.out.grown g6 H.out.size (fun q e => by cases e; exact G4.out))
                          refine hK _ _ H.out (fun _ => ?_)
                          clear hK K F4' g6 e6
                          refine wpAnyH_ready (rs := [7]) (by kernel_rfl) (by simp) (AllReadyH.cons rfl (fun K hK => ?_) AllReadyH.nil)
                          refine step_seg_store sizeI (by kernel_rfl) (.tmp 15) (.tmp 102) (by kernel_rfl) F5.out 0 (vs := [.int .i64 n.k, .int .i64 n.z, .slice A NL c]) rfl (Nat.le_refl _) (by simp [Value.oneCell']) (by kernel_rfl) (by kernel_rfl) [.int .i64 n.k, .int .i64 n.z, .slice A NL c] rfl ?_
                          intro wt F5' g7 e7
                          have F5 := Lib.hid F5'
                          have F4 := Lib.hid (F4.out.grown g7 (by simp only [ne_eq, Option.some.injEq]; have := NE.out; omega))
                          have HO := Lib.hid (kept2e HO.out g7 N5.out)
                          have H := Lib.hid (H.out.grown g7 H.out.size (fun q e => by cases e; exact G5.out))
                          refine hK _ _ H.out (fun _ => ?_)
                          clear hK K F5' g7 e7
                          refine wpAnyH_done (by kernel_rfl) ?_ _
                          go_wp2_with fail
                          go_meet
                          exact ⟨g4, g5, mu, Au, cu, rfl, rfl, hmu, Lib.hid ⟨G4.out, G5.out, NE.out⟩, F4, F5, ⟨_, HO⟩, N5, H⟩
                      · go_simp
                        obtain ⟨wk1, hwk⟩ : ∃ wk, wk = wk0.alloc (.cells #[.int .i64 0, .int .i64 0, .slice none 0 0] 24) := ⟨_, rfl⟩
                        obtain ⟨g5, hgk⟩ : ∃ gk, gk = wk0.heap.size := ⟨_, rfl⟩
                        have G5 : Hid (wb.heap.size ≤ g5) := Lib.hid (by rw [hgk]; exact H.out.size)
                        have F5 : Hid (Blk wk1 g5 24 [.int .i64 0, .int .i64 0, .slice none 0 0]) := Lib.hid (by rw [hwk, hgk]; exact Blk.new wk0 _ _)
                        have H : Hid (Below wb.heap.size wb wk1) := Lib.hid (by rw [hwk]; exact H.out.alloc H.out.size _)
                        rw [← hwk, ← hgk]
                        refine hK _ _ H.out (fun _ => ?_)
                        clear hK K hwk hgk
                        refine wpAnyH_ready (rs := [2, 4]) (by kernel_rfl) (by simp) (AllReadyH.cons rfl (fun K hK => ?_) (AllReadyH.cons rfl (fun K hK => ?_) AllReadyH.nil))
                        · go_simp
                          have L5 := F5.out.lt
                          ((with_reducible refine (KWO.out _ H.out).mono ?_); rintro e wk2 ⟨mu, hmu, Au, cu, rfl, HO, bu⟩)
                          have N5 : Hid ((Value.slice Au mu cu).ownBlock ≠ some g5) := Lib.hid (fun e => by have := (World.ownsRow.lt HO.out _ e).1; omega)
                          have F5 := Lib.hid (F5.out.after bu)
                          have H := Lib.hid (H.out.trans (bu.mono H.out.size))
                          refine hK _ _ H.out (fun _ => ?_)
                          clear hK K bu
                          refine wpAnyH_ready (rs := [4]) (by kernel_rfl) (by simp) (AllReadyH.cons rfl (fun K hK => ?_) AllReadyH.nil)
                          go_simp
                          obtain ⟨wk3, hwk⟩ : ∃ wk, wk = wk2.alloc (.cells #[.int .i64 0, .int .i64 0, .slice none 0 0] 24) := ⟨_, rfl⟩
                          obtain ⟨g4, hgk⟩ : ∃ gk, gk = wk2.heap.size := ⟨_, rfl⟩
                          have NE : Hid (g4 ≠ g5) := Lib.hid (by have := F5.out.lt; omega)
                          have G4 : Hid (wb.heap.size ≤ g4) := Lib.hid (by rw [hgk]; exact H.out.size)
                          have F4 : Hid (Blk wk3 g4 24 [.int .i64 0, .int .i64 0, .slice none 0 0]) := Lib.hid (by rw [hwk, hgk]; exact Blk.new wk2 _ _)
                          have F5 : Hid (Blk wk3 g5 24 [.int .i64 0, .int .i64 0, .slice none 0 0]) := Lib.hid (by rw [hwk]; exact F5.out.alloc _)
                          have N4 : Hid ((Value.slice Au mu cu).ownBlock ≠ some g4) := Lib.hid (fun e => by have := (World.ownsRow.lt HO.out _ e).2; omega)
                          have HO : Hid (OwnE wk3 _ (.slice Au mu cu) (wo n.es xs)) := Lib.hid (by rw [hwk]; exact HO.out.kept ((Below.refl _ _).alloc (Nat.le_refl _) _))
                          have H : Hid (Below wb.heap.size wb wk3) := Lib.hid (by rw [hwk]; exact H.out.alloc H.out.size _)
                          rw [← hwk, ← hgk]
                          refine hK _ _ H.out (fun _ => ?_)
                          clear hK K hwk hgk
                          refine wpAnyH_ready (rs := [6]) (by kernel_rfl) (by simp) (AllReadyH.cons rfl (fun K hK => ?_) AllReadyH.nil)
                          refine step_seg_store sizeI (by kernel_rfl) (.tmp 14) (.tmp 101) (by kernel_rfl) F4.out 0 (vs := [.int .i64 n.k, .int .i64 n.z, .slice Au mu cu]) rfl (Nat.le_refl _) (by simp [Value.oneCell']) (by kernel_rfl) (by kernel_rfl) [.int .i64 n.k, .int .i64 n.z, .slice Au mu cu] rfl ?_
                          intro ws F4' g6 e6
                          have F4 := Lib.hid F4'
                          have F5 := Lib.hid (F5.out.grown g6 (by simp only [ne_eq, Option.some.injEq]; have := NE.out; omega))
                          have HO := Lib.hid (kept2e HO.out g6 N4.out)
                          have H := Lib.hid (H.out.grown g6 H.out.size (fun q e => by cases e; exact G4.out))
                          refine hK _ _ H.out (fun _ => ?_)
                          clear hK K F4' g6 e6
                          refine wpAnyH_ready (rs := [7]) (by kernel_rfl) (by simp) (AllReadyH.cons rfl (fun K hK => ?_) AllReadyH.nil)
                          refine step_seg_store sizeI (by kernel_rfl) (.tmp 15) (.tmp 102) (by kernel_rfl) F5.out 0 (vs := [.int .i64 n.k, .int .i64 n.z, .slice A NL c]) rfl (Nat.le_refl _) (by simp [Value.oneCell']) (by kernel_rfl) (by kernel_rfl) [.int .i64 n.k, .int .i64 n.z, .slice A NL c] rfl ?_
                          intro wt F5' g7 e7
                          have F5 := Lib.hid F5'
                          have F4 := Lib.hid (F4.out.grown g7 (by simp only [ne_eq, Option.some.injEq]; have := NE.out; omega))
                          have HO := Lib.hid (kept2e HO.out g7 N5.out)
                          have H := Lib.hid (H.out.grown g7 H.out.size (fun q e => by cases e; exact G5.out))
                          refine hK _ _ H.out (fun _ => ?_)
                          clear hK K F5' g7 e7
                          refine wpAnyH_done (by kernel_rfl) ?_ _
                          go_wp2_with fail
                          go_meet
                          exact ⟨g4, g5, mu, Au, cu, rfl, rfl, hmu, Lib.hid ⟨G4.out, G5.out, NE.out⟩, F4, F5, ⟨_, HO⟩, N5, H⟩
                        · go_simp
                          obtain ⟨wk2, hwk⟩ : ∃ wk, wk = wk1.alloc (.cells #[.int .i64 0, .int .i64 0, .slice none 0 0] 24) := ⟨_, rfl⟩
                          obtain ⟨g4, hgk⟩ : ∃ gk, gk = wk1.heap.size := ⟨_, rfl⟩
                          have NE : Hid (g4 ≠ g5) := Lib.hid (by have := F5.out.lt; omega)
                          have G4 : Hid (wb.heap.size ≤ g4) := Lib.hid (by rw [hgk]; exact H.out.size)
                          have F4 : Hid (Blk wk2 g4 24 [.int .i64 0, .int .i64 0, .slice none 0 0]) := Lib.hid (by rw [hwk, hgk]; exact Blk.new wk1 _ _)
                          have F5 : Hid (Blk wk2 g5 24 [.int .i64 0, .int .i64 0, .slice none 0 0]) := Lib.hid (by rw [hwk]; exact F5.out.alloc _)
                          have H : Hid (Below wb.heap.size wb wk2) := Lib.hid (by rw [hwk]; exact H.out.alloc H.out.size _)
                          rw [← hwk, ← hgk]
                          refine hK _ _ H.out (fun _ => ?_)
                          clear hK K hwk hgk
                          refine wpAnyH_ready (rs := [2]) (by kernel_rfl) (by simp) (AllReadyH.cons rfl (fun K hK => ?_) AllReadyH.nil)
                          go_simp
                          have L4 := F4.out.lt
                          have L5 := F5.out.lt
                          ((with_reducible refine (KWO.out _ H.out).mono ?_); rintro e wk3 ⟨mu, hmu, Au, cu, rfl, HO, bu⟩)
                          have N4 : Hid ((Value.slice Au mu cu).ownBlock ≠ some g4) := Lib.hid (fun e => by have := (World.ownsRow.lt HO.out _ e).1; omega)
                          have F4 := Lib.hid (F4.out.after bu)
                          have N5 : Hid ((Value.slice Au mu cu).ownBlock ≠ some g5) := Lib.hid (fun e => by have := (World.ownsRow.lt HO.out _ e).1; omega)
                          have F5 := Lib.hid (F5.out.after bu)
                          have H := Lib.hid (H.out.trans (bu.mono H.out.size))
                          refine hK _ _ H.out (fun _ => ?_)
                          clear hK K bu
                          refine wpAnyH_ready (rs := [6]) (by kernel_rfl) (by simp) (AllReadyH.cons rfl (fun K hK => ?_) AllReadyH.nil)
                          refine step_seg_store sizeI (by kernel_rfl) (.tmp 14) (.tmp 101) (by kernel_rfl) F4.out 0 (vs := [.int .i64 n.k, .int .i64 n.z, .slice Au mu cu]) rfl (Nat.le_refl _) (by simp [Value.oneCell']) (by kernel_rfl) (by kernel_rfl) [.int .i64 n.k, .int .i64 n.z, .slice Au mu cu] rfl ?_
                          intro ws F4' g6 e6
                          have F4 := Lib.hid F4'
                          have F5 := Lib.hid (F5.out.grown g6 (by simp only [ne_eq, Option.some.injEq]; have := NE.out; omega))
                          have HO := Lib.hid (kept2e HO.out g6 N4.out)
                          have H := Lib.hid (H.out.grown g6 H.out.size (fun q e => by cases e; exact G4.out))
                          refine hK _ _ H.out (fun _ => ?_)
                          clear hK K F4' g6 e6
                          refine wpAnyH_ready (rs := [7]) (by kernel_rfl) (by simp) (AllReadyH.cons rfl (fun K hK => ?_) AllReadyH.nil)
                          refine step_seg_store sizeI (by kernel_rfl) (.tmp 15) (.tmp 102) (by kernel_rfl) F5.out 0 (vs := [.int .i64 n.k, .int .i64 n.z, .slice A NL c]) rfl (Nat.le_refl _) (by simp [Value.oneCell']) (by kernel_rfl) (by kernel_rfl) [.int .i64 n.k, .int .i64 n.z, .slice A NL c] rfl ?_
                          intro wt F5' g7 e7
                          have F5 := Lib.hid F5'
                          have F4 := Lib.hid (F4.out.grown g7 (by simp only [ne_eq, Option.some.injEq]; have := NE.out; omega))
                          have HO := Lib.hid (kept2e HO.out g7 N5.out)
                          have H := Lib.hid (H.out.grown g7 H.out.size (fun q e => by cases e; exact G5.out))
                          refine hK _ _ H.out (fun _ => ?_)
                          clear hK K F5' g7 e7
                          refine wpAnyH_done (by kernel_rfl) ?_ _
                          go_wp2_with fail
                          go_meet
                          exact ⟨g4, g5, mu, Au, cu, rfl, rfl, hmu, Lib.hid ⟨G4.out, G5.out, NE.out⟩, F4, F5, ⟨_, HO⟩, N5, H⟩
                    case rest =>
                      obtain ⟨ga, gb, mu, Au, cu, rfl, rfl, hmu, hgab, hF4, hF5, ⟨ub, hO⟩, hN, hH⟩ := hcut
                      clear H KWO
                      go_wp2_with fail
                      go_loopw [105] (fun i wx => ∃ (q : Nat) (Av : Option Addr) (cv Nv : Nat), q ≤ XL ∧ i = .int .i64 q ∧ Hid ((wo n.es (xs.take q)).length = Nv) ∧ Hid (Blk wx gb 24 [.int .i64 n.k, .int .i64 n.z, .slice Av Nv cv]) ∧ Hid (Ents wx wx.heap.size (.slice Av Nv cv) (wo n.es (xs.take q))) ∧ Hid (Blk wx ga 24 [.int .i64 n.k, .int .i64 n.z, .slice Au mu cu]) ∧ Hid (OwnE wx ub (.slice Au mu cu) (wo n.es xs)) ∧ Hid (Below wb.heap.size wb wx)) (fun i _ => XL - (intOf i).toNat)
                      case atStart => exact ⟨0, A, c, NL, by omega, rfl, Lib.hid (by rw [List.take_zero, wo_nil]; exact HNL.out), hF5, Lib.hid (by rw [List.take_zero, wo_nil]; exact Vb.out.after hH.out), hF4, hO, hH⟩
                      case round =>
                        clear hF4 hF5 hO hH
                        obtain ⟨q2, Av, cv, Nv, hq2, rfl, hNv, hB, hE, hA, hO, hH⟩ := hrel
                        have C1 := Lib.hid (Cb.out.after hH.out)
                        have V1 := Lib.hid (Vb.out.after hH.out)
                        by_cases hlt2 : q2 < XL
                        · obtain ⟨st, hst⟩ : ∃ st, xs[q2]? = some st := ⟨_, List.getElem?_eq_getElem (by rw [HXL.out]; exact hlt2)⟩
                          obtain ⟨a, rfl, _, hck⟩ := ((XO.out.below Tb.out).below (hH.out.mono Tb.out.size)).at_ hst
                          have hwl : (wo n.es (xs.take q2)).length ≤ n.es.length := List.length_filter_le _ _
                          have KW := Lib.hid (refWithout_any ⟨n.k, n.z, wo n.es (xs.take q2)⟩ _ st wr hE.out (by have := HNL.out; show (wo n.es (xs.take q2)).length ≤ 1000; omega))
                          have hnx : outL (wo n.es (xs.take q2)) st = wo n.es (xs.take (q2 + 1)) := by
                            rw [out_wo, List.take_add_one, hst]
                            rfl
                          simp only at KW
                          rw [hnx] at KW
                          obtain ⟨fi, hfi⟩ : ∃ fi, fi = (findL n.es st).1 := ⟨_, rfl⟩
                          obtain ⟨fb, hfb⟩ : ∃ fb, fb = (findL n.es st).2 := ⟨_, rfl⟩
                          have KF : Hid (∀ w', Below wb.heap.size wb w' → Calls Try.prog 17 #[.agg #[.int .i64 n.k, .int .i64 n.z, .slice A NL c], .string st] w' fun e w2 => e = .returned (.tuple #[.int .i64 fi, .bool fb]) ∧ Below w'.heap.size w' w2) := Lib.hid (fun w' hb => by rw [hfi, hfb]; exact find_any n _ st w' (Vb.out.after hb))
                          have KG : Hid (∀ w', Below wb.heap.size wb w' → Calls Try.prog 18 #[.agg #[.int .i64 n.k, .int .i64 n.z, .slice A NL c], .string st] w' fun e w2 => e = .returned (.tuple #[.int .i64 fi, .bool fb]) ∧ Below w'.heap.size w' w2) := Lib.hid (fun w' hb => by rw [hfi, hfb]; exact refFind_any n _ st w' (Vb.out.after hb))
                          have dfi : (fi != fi) = false := by simp
                          have dfb : (fb != fb) = false := by cases fb <;> rfl
                          have GB : Hid (wb.heap.size ≤ gb ∧ ga ≠ gb ∧ gb < wr.heap.size) := Lib.hid ⟨hgab.out.2.1, hgab.out.2.2, hB.out.lt⟩
                          have c1 : wr.cell? (a.add q2) = some (.string st) := hck
                          have AR := Lib.hid (fun w' => hA.out.after (w' := w'))
                          have BR := Lib.hid (fun w' => hB.out.after (w' := w'))
                          clear hst hwl hnx hfi hfb hck
                          have KW' := Lib.hid KW
                          clear KW
                          go_wp2_with (with_reducible refine wpl_seg_load aggI sizeI (.tmp 15) rfl rfl hB.out 0 [.int .i64 n.k, .int .i64 n.z, .slice Av Nv cv] rfl rfl rfl ?_)
                          refine KW'.out.mono ?_
                          rintro e wk ⟨m2, hm2, A2, cc2, rfl, O2, bk⟩
                          have B2 := Lib.hid (BR.out _ bk)
                          have A2' := Lib.hid (AR.out _ bk)
                          have HK2 := Lib.hid bk
                          clear bk KW'
                          go_wp2_with (first
                            | ((with_reducible refine wpl_seg_store sizeI (.tmp 15) (.tmp 111) rfl rfl B2.out 0 [.int .i64 n.k, .int .i64 n.z, .slice A2 m2 cc2] rfl (Nat.le_refl _) (by simp [Value.oneCell']) rfl rfl _ rfl ?_); intro ws B3' g3' e3'; have B3 := Lib.hid B3'; have HG3 := Lib.hid g3'; have H3 := Lib.hid ((hH.out.trans (HK2.out.mono hH.out.size)).grown g3' (Nat.le_trans hH.out.size HK2.out.size) (fun k e => by cases e; exact GB.out.1)); have C3 := Lib.hid (Cb.out.after H3.out); have V3 := Lib.hid (Vb.out.after H3.out); clear B3' g3' e3')
                            | (with_reducible refine wpl_seg_load aggI sizeI (.tmp 3) rfl rfl C3.out 0 [.int .i64 n.k, .int .i64 n.z, .slice A NL c] rfl rfl rfl ?_))
                          have A3 := Lib.hid (A2'.out.grown HG3.out (by simp only [ne_eq, Option.some.injEq]; exact GB.out.2.1))
                          have OU3 := Lib.hid (kept2e (hO.out.kept HK2.out) HG3.out hN.out)
                          have OV3 : Hid (OwnE ws wr.heap.size (.slice A2 m2 cc2) (wo n.es (xs.take (q2 + 1)))) := Lib.hid (OwnE.grown O2.out GB.out.2.2 HG3.out)
                          have EV3 := Lib.hid OV3.out.ents
                          refine (KF.out ws H3.out).mono ?_
                          rintro e wt ⟨rfl, bt⟩
                          have H4 := Lib.hid (H3.out.trans (bt.mono H3.out.size))
                          have C4 := Lib.hid (C3.out.after bt)
                          go_wp2_with (with_reducible refine wpl_seg_load aggI sizeI (.tmp 3) rfl rfl C4.out 0 [.int .i64 n.k, .int .i64 n.z, .slice A NL c] rfl rfl rfl ?_)
                          refine (KG.out wt H4.out).mono ?_
                          rintro e wu ⟨rfl, bu⟩
                          have btu := Lib.hid (bt.trans (bu.mono bt.size))
                          have H5 := Lib.hid (H4.out.trans (bu.mono H4.out.size))
                          clear bt bu
                          go_wp2_with fail
                          exact ⟨⟨q2 + 1, A2, cc2, m2, by omega, by go_num, Lib.hid hm2.out.symm, Lib.hid (B3.out.after btu.out), Lib.hid (EV3.out.after btu.out), Lib.hid (A3.out.after btu.out), Lib.hid (OU3.out.kept btu.out), H5⟩, by simp [intOf]; omega⟩
                        · obtain rfl : q2 = XL := by omega
                          have hwf : wo n.es (xs.take q2) = wo n.es xs := by rw [List.take_of_length_le (by rw [HXL.out]; exact Nat.le_refl _)]
                          rw [hwf] at hNv hE
                          have hmn : Nv = mu := hNv.out.symm.trans hmu.out
                          subst hmn
                          have KS1 := Lib.hid (same_yes ⟨n.k, n.z, wo n.es xs⟩ _ _ wr hO.out.ents hE.out)
                          have D1 := Lib.hid (Db.out.after hH.out)
                          have I1 := Lib.hid (Ib.out.after hH.out)
                          have T1 := Lib.hid (Tb.out.trans (hH.out.mono Tb.out.size))
                          clear hwf hNv
                          go_wp2_with (first | (with_reducible refine wpl_seg_load aggI sizeI (.tmp 14) rfl rfl hA.out 0 [.int .i64 n.k, .int .i64 n.z, .slice Au Nv cu] rfl rfl rfl ?_) | (with_reducible refine wpl_seg_load aggI sizeI (.tmp 15) rfl rfl hB.out 0 [.int .i64 n.k, .int .i64 n.z, .slice Av Nv cv] rfl rfl rfl ?_))
                          refine KS1.out.mono ?_
                          rintro e wz ⟨rfl, bz⟩
                          have C2 := Lib.hid (C1.out.after bz)
                          have D2 := Lib.hid (D1.out.after bz)
                          have T2 := Lib.hid (T1.out.trans (bz.mono T1.out.size))
                          have KS2 := Lib.hid (same_yes n _ _ wz (I1.out.after bz) (V1.out.after bz))
                          clear bz
                          go_wp2_with (first | (with_reducible refine wpl_seg_load aggI sizeI (.tmp 7) rfl rfl D2.out 0 [.int .i64 n.k, .int .i64 n.z, .slice A4 NL c4] rfl rfl rfl ?_) | (with_reducible refine wpl_seg_load aggI sizeI (.tmp 3) rfl rfl C2.out 0 [.int .i64 n.k, .int .i64 n.z, .slice A NL c] rfl rfl rfl ?_))
                          refine KS2.out.mono ?_
                          rintro e wy ⟨rfl, bby⟩
                          go_wp2_with fail
                          go_ret
                          exact ⟨rfl, T2.out.trans (bby.mono T2.out.size)⟩
          · have i40 : (40 : Int) < (XL : Int) := by omega
            go_wp2_with fail
            go_ret
            exact ⟨rfl, T3.out⟩
      · have KG2 := Lib.hid (igreat_yes ⟨0, 0, more⟩ _ w2 ((MO.out.below T2.out).more T2.out.size) (by rw [HML.out]; omega))
        go_wp2_with fail
        refine KG2.out.mono ?_
        rintro e w3 ⟨rfl, b3⟩
        go_wp2_with fail
        go_ret
        exact ⟨rfl, T2.out.trans (b3.mono T2.out.size)⟩
  · have KG := Lib.hid (igreat_yes n _ w1 V1.out (by rw [HNL.out]; omega))
    go_wp2_with (with_reducible refine wpl_seg_load aggI sizeI (.tmp 3) rfl rfl C1.out 0 [.int .i64 n.k, .int .i64 n.z, .slice A NL c] rfl rfl rfl ?_)
    refine KG.out.mono ?_
    rintro e w2 ⟨rfl, b2⟩
    go_wp2_with fail
    go_ret
    exact ⟨rfl, T1.out.trans (b2.mono T1.out.size)⟩
theorem inodeEntries_any (u vm vx : Value) (w : World) (h : ∃ n, IsInode w w.heap.size u n) (hm : ∃ more, Ents w w.heap.size vm more) (hx : ∃ xs, Strs w w.heap.size vx xs) :
    Calls Try.prog 3 #[u, vm, vx] w fun e w' => e = .returned (.bool true) ∧ Below w.heap.size w w' := by
  obtain ⟨n, ⟨v, rfl, hv⟩, _, _⟩ := h
  obtain ⟨more, hm⟩ := hm
  obtain ⟨xs, hx⟩ := hx
  exact inodeEntries_walk n v vm vx more xs w hv hm hx
end Go.Proofs.Ytkpojlnfagonbaa


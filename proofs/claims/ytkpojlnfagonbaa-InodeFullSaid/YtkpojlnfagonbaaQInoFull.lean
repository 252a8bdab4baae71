/- The walk of InodeFull: it answers true, and changes nothing that was there. No condition but that the arguments are there. -/
import Derived.Test.YtkpojlnfagonbaaQInoFullM
import Derived.Test.YtkpojlnfagonbaaQInoSpeaks
import Derived.Test.YtkpojlnfagonbaaQInoSame
import Derived.Test.YtkpojlnfagonbaaQInoPred
import Derived.Test.YtkpojlnfagonbaaQOpenStrs
import Derived.Test.YtkpojlnfagonbaaQNandAnd
import Derived.RegionTactic
import Derived.BigRegion
import Derived.BigQuiet
import Derived.Deep.RegionHeld3
import Derived.Deep.DeepCutAuto
namespace Go.Proofs.Ytkpojlnfagonbaa
open Go Go.RowKit Go.Shelf
theorem Blk.new3f (w : World) (x y z : Value) (t : TypeId) : Blk (w.alloc (.cells #[x, y, z] t)) w.heap.size t [x, y, z] := heap_alloc_new w _
theorem Blk.new2f (w : World) (x y : Value) (t : TypeId) : Blk (w.alloc (.cells #[x, y] t)) w.heap.size t [x, y] := heap_alloc_new w _
def low16 (z : Int) : Nat := (z % 18446744073709551616).toNat % 65536
theorem and_low16 (z : Int) : bits .and .i64 z 65535 = (low16 z : Nat) := and_low z 16 65535 rfl (by omega)
theorem zF_one : ∀ v ∈ [Value.int .i64 2, .int .i64 0, .slice none 0 0], v.oneCell' = true := by simp [Value.oneCell']
theorem ownE_addr {w : World} {base n c : Nat} {A : Option Addr} {es : List EN} (h : OwnE w base (.slice A n c) es) (hn : 0 < es.length) : ∃ g, A = some ⟨g, 0, none⟩ ∧ base ≤ g := by
  rcases h.2 with ⟨_, h0⟩ | ⟨g, cap, cur, hv, hb, _⟩
  · omega
  · cases hv
    exact ⟨g, rfl, hb⟩
theorem ownE_cell {w : World} {base N c g : Nat} {M : List EN} (hN : M.length = N) (h : OwnE w base (.slice (some ⟨g, 0, none⟩) N c) M) (j : Nat) (hj : j < N * 2) : w.cell? ⟨g, j, none⟩ = (erows M)[j]? := by
  subst hN
  exact World.ownsRow.cellAt h j hj
theorem ownE_free {w : World} {base N c g : Nat} {M : List EN} (hN : M.length = N) (h : OwnE w base (.slice (some ⟨g, 0, none⟩) N c) M) (j : Nat) : w.frozen? ⟨g, j, none⟩ = false := by
  subst hN
  exact World.ownsRow.frozenAt h j
theorem ownE_put {w : World} {base N c g : Nat} {M : List EN} (hN : M.length = N) (h : OwnE w base (.slice (some ⟨g, 0, none⟩) N c) M) {k : Nat} (hk : k < M.length) (e : EN) :
    OwnE ((w.setCell ⟨g, k * 2, none⟩ (.string e.n)).setCell ⟨g, k * 2 + 1, none⟩ (.int .i64 e.i)) base (.slice (some ⟨g, 0, none⟩) N c) (M.set k e) := by
  subst hN
  have h1 := (World.ownsRow.stored (World.ownsRow.stored h (k * 2) (.string e.n)).1 (k * 2 + 1) (.int .i64 e.i)).1
  rw [erows_put e M k hk] at h1
  unfold OwnE
  rw [List.length_set]
  exact h1
set_option maxRecDepth 100000 in
set_option maxHeartbeats 16000000 in
theorem inodeFull_walk (vx vo : Value) (xs : List ByteArray) (zs : List Int) (w : World) (hxs : Strs w w.heap.size vx xs) (hzs : Nums w w.heap.size .i64 vo zs) :
    Calls Try.prog 4 #[vx, vo] w fun e w' => e = .returned (.bool true) ∧ Below w.heap.size w w' := by
  obtain ⟨A8, c8, rfl, hc8, hm8⟩ := hxs.shape
  obtain ⟨A9, c9, rfl, hc9, hm9, hro, _⟩ := hzs
  have XO := Lib.hid hxs
  have ZR := Lib.hid hro
  have KS := Lib.hid (inospeaks_any w)
  obtain ⟨ti, hi, hz, hs, hby⟩ := infoE'
  obtain ⟨XL, hXL⟩ : ∃ XL, xs.length = XL := ⟨_, rfl⟩
  have HXL := Lib.hid hXL
  obtain ⟨ZL, hZL⟩ : ∃ ZL, zs.length = ZL := ⟨_, rfl⟩
  have HZL := Lib.hid hZL
  clear hxs hro
  rw [hXL] at hc8 XO
  rw [hZL] at hc9
  rw [hXL, hZL]
  clear hXL hZL
  go_enter Try.func4, Try.ntmps4
  go_wp2_with fail
  refine KS.out.mono ?_
  rintro e w1 ⟨rfl, b1⟩
  have T1 := Lib.hid b1
  clear KS b1
  by_cases hxl : XL ≤ 40
  · have d1 : decide ((40 : Int) < (XL : Int)) = false := by simp; omega
    by_cases hzl : ZL ≤ 60
    · have d2 : decide ((60 : Int) < (ZL : Int)) = false := by simp; omega
      have ZO := Lib.hid zF_one
      have BA := Lib.hid ((Blk.new3f w1 (.int .i64 0) (.int .i64 0) (.slice none 0 0) 24).alloc (.cells #[.int .i64 0, .int .i64 0, .slice none 0 0] 24))
      have BB' := Blk.new3f (w1.alloc (.cells #[.int .i64 0, .int .i64 0, .slice none 0 0] 24)) (.int .i64 0) (.int .i64 0) (.slice none 0 0) 24
      rw [World.size_alloc] at BB'
      have BB := Lib.hid BB'
      have H2 : Hid (Below w1.heap.size w1 ((w1.alloc (.cells #[.int .i64 0, .int .i64 0, .slice none 0 0] 24)).alloc (.cells #[.int .i64 0, .int .i64 0, .slice none 0 0] 24))) := Lib.hid (((Below.refl w1.heap.size w1).alloc (Nat.le_refl _) _).alloc (by simp) _)
      have S2 : Hid (((w1.alloc (.cells #[.int .i64 0, .int .i64 0, .slice none 0 0] 24)).alloc (.cells #[.int .i64 0, .int .i64 0, .slice none 0 0] 24)).heap.size = w1.heap.size + 2) := Lib.hid (by simp)
      clear BB'
      go_upto_region 6 with (first
        | ((with_reducible refine wpl_seg_store sizeI (.tmp 5) (.tmp 31) rfl rfl BA.out 0 [.int .i64 2, .int .i64 0, .slice none 0 0] rfl (Nat.le_refl _) ZO.out rfl rfl _ rfl ?_); intro w3 BA3 g3 e3; have HA3 := Lib.hid BA3; have HB3 := Lib.hid (BB.out.grown g3 (by simp)); have H3 := Lib.hid (H2.out.grown g3 H2.out.size (fun q e => by cases e; exact Nat.le_refl _)); have G3 := Lib.hid g3; have S3 := Lib.hid (e3.trans S2.out); clear BA3 g3 e3 BA BB H2 S2)
        | ((with_reducible refine wpl_seg_store sizeI (.tmp 6) (.tmp 32) rfl rfl HB3.out 0 [.int .i64 2, .int .i64 0, .slice none 0 0] rfl (Nat.le_refl _) ZO.out rfl rfl _ rfl ?_); intro w4 BB4 g4 e4; have HB4 := Lib.hid BB4; have HA4 := Lib.hid (HA3.out.grown g4 (by simp)); have H4 := Lib.hid (H3.out.grown g4 H3.out.size (fun q e => by cases e; exact Nat.le_succ _)); have S4 := Lib.hid (e4.trans S3.out); clear BB4 g4 e4 HA3 HB3 H3 G3 S3))
      obtain ⟨ga, hga⟩ : ∃ ga, ga = w1.heap.size := ⟨_, rfl⟩
      rw [← hga] at HA4 HB4 H4 S4 ⊢
      have T4 := Lib.hid (T1.out.trans (H4.out.mono (by rw [hga]; exact T1.out.size)))
      have LG : Hid (w.heap.size ≤ ga) := Lib.hid (by rw [hga]; exact T1.out.size)
      clear hga T1 H4
      have HA5 := Lib.hid (HA4.out.alloc (.cells #[] 32))
      have HB5 := Lib.hid (HB4.out.alloc (.cells #[] 32))
      have O5 := Lib.hid (OwnE.made w4 (ga + 2) (Nat.le_of_eq S4.out.symm) (ga + 2) S4.out.symm)
      have T5 := Lib.hid (T4.out.alloc T4.out.size (.cells #[] 32))
      have S5 : Hid (ga + 2 < (w4.alloc (.cells #[] 32)).heap.size) := Lib.hid (by rw [World.size_alloc, S4.out]; omega)
      have s4 := S4.out
      go_upto_region 8 with (fail)
      obtain ⟨W5, hW5⟩ : ∃ W5, W5 = w4.alloc (.cells #[] 32) := ⟨_, rfl⟩
      rw [← hW5] at HA5 HB5 O5 T5 S5 ⊢
      clear hW5 s4 S4 HB4 HA4 T4 d1 d2 ZO
      go_loopw [7, 36] (fun s7 i wx => ∃ (q : Nat) (L P : List EN) (Aa Al : Option Addr) (ca cl NA NP : Nat), q ≤ XL ∧ s7 = .slice Al NP cl ∧ i = .int .i64 q ∧ Hid (L.length = NA) ∧ Hid (P.length = NP) ∧ Hid (IN.dir ⟨2, 0, L⟩) ∧ Hid (L.Perm P) ∧ Hid (Blk wx ga 24 [.int .i64 2, .int .i64 0, .slice Aa NA ca]) ∧ Hid (Blk wx (ga + 1) 24 [.int .i64 2, .int .i64 0, .slice none 0 0]) ∧ Hid (OwnE wx (ga + 2) (.slice Aa NA ca) L) ∧ Hid (OwnE wx (ga + 2) (.slice Al NP cl) P) ∧ Hid (∀ k, (Value.slice Aa NA ca).ownBlock = some k → (Value.slice Al NP cl).ownBlock ≠ some k) ∧ Hid (Below w.heap.size w wx)) (fun _ i _ => XL - (intOf i).toNat)
      case atStart => exact ⟨0, [], [], none, some ⟨ga + 2, 0, none⟩, 0, 0, 0, 0, by omega, rfl, rfl, Lib.hid rfl, Lib.hid rfl, Lib.hid ⟨rfl, rfl, Nat.zero_le _, GoodTo.zero _⟩, Lib.hid (List.Perm.refl _), HA5, HB5, Lib.hid (OwnE.nil _ _), O5, Lib.hid (fun k h => by simp [Value.ownBlock] at h), T5⟩
      case round =>
        clear HA5 HB5 O5 T5 S5
        obtain ⟨q, L, P, Aa, Al, ca, cl, NA, NP, hq, rfl, rfl, hLN, hPN, hD, hP, hA, hB, hOA, hOL, hap, hH⟩ := hrel
        by_cases hlt : q < XL
        · obtain ⟨st, hst⟩ : ∃ st, xs[q]? = some st := ⟨_, List.getElem?_eq_getElem (by rw [HXL.out]; exact hlt)⟩
          obtain ⟨a, rfl, _, hck⟩ := (XO.out.below hH.out).at_ hst
          clear hst
          by_cases hsz : st.size ≤ 100
          · have d3 : decide ((100 : Int) < (st.size : Int)) = false := by simp; omega
            obtain ⟨ii, hii⟩ : ∃ ii, ii = q % 24 := ⟨_, rfl⟩
            have hil : ii < 24 := by rw [hii]; exact Nat.mod_lt _ (by omega)
            have ex : (q : Int) % 24 = (ii : Int) := by rw [hii]; exact (Int.natCast_emod q 24).symm
            have ex2 : Int.tmod (q : Int) 24 = (ii : Int) := by rw [Int.tmod_eq_emod_of_nonneg (by omega), ex]
            clear hii
            go_upto_region 13 with (fail)
            have X7' := Blk.new2f wr (.string st) (.int .i64 (1 + (ii : Int))) 32
            have H7' := (Below.refl wr.heap.size wr).alloc (Nat.le_refl _) (.cells #[.string st, .int .i64 (1 + (ii : Int))] 32)
            have S7' : wr.heap.size < (wr.alloc (.cells #[.string st, .int .i64 (1 + (ii : Int))] 32)).heap.size := by rw [World.size_alloc]; exact Nat.lt_succ_self _
            obtain ⟨w7, hw7⟩ : ∃ w7, w7 = wr.alloc (.cells #[.string st, .int .i64 (1 + (ii : Int))] 32) := ⟨_, rfl⟩
            rw [← hw7] at X7' H7' S7' ⊢
            have X7 := Lib.hid X7'
            have H7 := Lib.hid H7'
            have S7 := Lib.hid S7'
            clear hw7 X7' H7' S7'
            have HA7 := Lib.hid (hA.out.after H7.out)
            have HB7 := Lib.hid (hB.out.after H7.out)
            have OA7 := Lib.hid (hOA.out.kept H7.out)
            have OL7 := Lib.hid (hOL.out.kept H7.out)
            have T7 := Lib.hid (hH.out.trans (H7.out.mono hH.out.size))
            have LX : Hid (ga + 1 < wr.heap.size) := Lib.hid hB.out.lt
            obtain ⟨gx, hgx⟩ : ∃ gx, gx = wr.heap.size := ⟨_, rfl⟩
            rw [← hgx] at X7 S7 LX ⊢
            clear hgx H7 hA hB hOA hOL hH hck ex ex2 d3
            obtain ⟨x, hx⟩ : ∃ x : EN, x = ⟨st, 1 + (ii : Int)⟩ := ⟨_, rfl⟩
            have hx1 : st = x.n := by rw [hx]
            have hx2 : 1 + (ii : Int) = x.i := by rw [hx]
            rw [hx1, hx2] at X7 ⊢
            have LN8 : Hid (NA ≤ 8) := Lib.hid (by rw [← hLN.out]; exact hD.out.2.2.1)
            have KW := Lib.hid (with_any ⟨2, 0, L⟩ (.slice Aa NA ca) (.slice (some ⟨w7.heap.size, 0, none⟩) 1 1) [x] (w7.alloc (.cells #[.string x.n, .int .i64 x.i] 32)) (OA7.out.ents.after ((Below.refl _ _).alloc (Nat.le_refl _) _)) (ents_one (Blk.new2f w7 _ _ _)) (by simp))
            have HS := Lib.hid (with_step hD.out x)
            have H8 := Lib.hid ((Below.refl w7.heap.size w7).alloc (Nat.le_refl _) (.cells #[.string x.n, .int .i64 x.i] 32))
            obtain ⟨⟨⟨rk, rz, res⟩, re⟩, hr⟩ : ∃ r, r = withI ⟨2, 0, L⟩ [x] := ⟨_, rfl⟩
            rw [← hr] at KW HS
            unfold WithP at KW
            simp only at KW HS
            obtain ⟨RN, hRN⟩ : ∃ RN, res.length = RN := ⟨_, rfl⟩
            rw [hRN] at KW
            have HRN := Lib.hid hRN
            clear hx hx1 hx2 hr hRN
            go_upto_region 14 with (first
              | (with_reducible refine wpl_seg_load aggI sizeI (.tmp 5) rfl rfl HA7.out 0 [.int .i64 2, .int .i64 0, .slice Aa NA ca] rfl rfl rfl ?_)
              | (with_reducible refine wpl_seg_load aggE sizeE (.tmp 10) rfl rfl X7.out 0 [.string x.n, .int .i64 x.i] rfl rfl rfl ?_)
              | ((with_reducible refine KW.out.mono ?_); rintro e w8 ⟨⟨A', c', rfl, O8'⟩, b8⟩; have O8 := Lib.hid O8'; have HH8 := Lib.hid (H8.out.trans (b8.mono H8.out.size)); have X8 := Lib.hid (Blk.new3f w8 (.int .i64 0) (.int .i64 0) (.slice none 0 0) 24); clear KW b8 O8')
              | ((with_reducible refine wpl_seg_store sizeI (.tmp 11) (.tmp 54) rfl rfl X8.out 0 [.int .i64 rk, .int .i64 rz, .slice A' RN c'] rfl (Nat.le_refl _) (by simp [Value.oneCell']) rfl rfl _ rfl ?_); intro w9 X9' g9 e9; have X9 := Lib.hid X9'; have G9 := Lib.hid g9; have S9 := Lib.hid (e9.trans (World.size_alloc _ _)); clear X9' g9 e9))
            have h89 : Below w8.heap.size w8 w9 := ((Below.refl w8.heap.size w8).alloc (Nat.le_refl _) _).grown G9.out (by simp) (fun k e => by cases e; exact Nat.le_refl _)
            have HH9 := HH8.out.trans (h89.mono HH8.out.size)
            have HA9 := Lib.hid (HA7.out.after HH9)
            have HB9 := Lib.hid (HB7.out.after HH9)
            have X9b := Lib.hid (X7.out.after HH9)
            have OA9 := Lib.hid (OA7.out.kept HH9)
            have OL9 := Lib.hid (OL7.out.kept HH9)
            have ON9 := Lib.hid (O8.out.kept h89)
            have T9 := Lib.hid (T7.out.trans (HH9.mono T7.out.size))
            have hNB : Hid (∀ k, (Value.slice A' RN c').ownBlock = some k → w7.heap.size < k ∧ k < w9.heap.size) := Lib.hid (fun k h => by
              have h1 := World.ownsRow.lt ON9.out k h
              rw [World.size_alloc] at h1
              exact ⟨by omega, h1.2⟩)
            have hLB : Hid (∀ k, (Value.slice Al NP cl).ownBlock = some k → ga + 2 ≤ k ∧ k < w7.heap.size) := Lib.hid (fun k h => World.ownsRow.lt OL7.out k h)
            have SZ9 : Hid (ga + 2 < w7.heap.size ∧ w7.heap.size ≤ w9.heap.size) := Lib.hid ⟨by have := LX.out; have := S7.out; omega, HH9.size⟩
            have ON9' : Hid (OwnE w9 (ga + 2) (.slice A' RN c') res) := Lib.hid (ON9.out.lower (by rw [World.size_alloc]; have := SZ9.out.1; omega))
            obtain ⟨gn, hgn⟩ : ∃ gn, gn = w8.heap.size := ⟨_, rfl⟩
            rw [← hgn] at X9 ⊢
            have LP8 : NP ≤ 8 := by rw [← hPN.out, ← hP.out.length_eq, hLN.out]; exact LN8.out
            clear h89 HH9 HA7 HB7 X7 OA7 OL7 O8 T7 hgn G9 S9 X8 HH8 H8 ON9 S7
            rcases HS.out with hne | ⟨es, he, hdir, hperm⟩
            · have h0 : (re == 0) = false := by simpa using hne
              clear HS ON9'
              go_wp2_with fail
              exact ⟨⟨q + 1, L, P, Aa, Al, ca, cl, NA, NP, by omega, rfl, by go_num, hLN, hPN, hD, hP, HA9, HB9, OA9, OL9, hap, T9⟩, by simp [intOf]; omega⟩
            · cases he
              have HDIR := Lib.hid hdir
              have HPERM := Lib.hid hperm
              clear HS hdir hperm
              go_wp2_with (first
                | (with_reducible refine wpl_seg_load aggI sizeI (.tmp 11) rfl rfl X9.out 0 [.int .i64 2, .int .i64 0, .slice A' RN c'] rfl rfl rfl ?_)
                | ((with_reducible refine wpl_seg_store sizeI (.tmp 5) (.tmp 58) rfl rfl HA9.out 0 [.int .i64 2, .int .i64 0, .slice A' RN c'] rfl (Nat.le_refl _) (by simp [Value.oneCell']) rfl rfl _ rfl ?_); intro wa HAa' gga ea; have HAa := Lib.hid (HAa'.alloc (.cells #[.string x.n, .int .i64 x.i] 32)); have HBa := Lib.hid ((HB9.out.grown gga (by simp)).alloc (.cells #[.string x.n, .int .i64 x.i] 32)); have Xa := Lib.hid (X9b.out.grown gga (by simp only [ne_eq, Option.some.injEq]; have := LX.out; omega)); have OLa := Lib.hid ((OwnE.grown OL9.out (by omega) gga).kept ((Below.refl _ _).alloc (Nat.le_refl _) (.cells #[.string x.n, .int .i64 x.i] 32))); have ONa := Lib.hid ((OwnE.grown ON9'.out (by omega) gga).kept ((Below.refl _ _).alloc (Nat.le_refl _) (.cells #[.string x.n, .int .i64 x.i] 32))); have Ta := Lib.hid ((T9.out.grown gga T9.out.size (fun k e => by cases e; exact LG.out)).alloc (by rw [ea]; exact T9.out.size) (.cells #[.string x.n, .int .i64 x.i] 32)); have Sa := Lib.hid ea; have RO := Lib.hid (row_one (Blk.new2f wa (.string x.n) (.int .i64 x.i) 32)); have LBa : ga + 2 ≤ (wa.alloc (.cells #[.string x.n, .int .i64 x.i] 32)).heap.size := (by rw [World.size_alloc, ea]; have := SZ9.out; omega); clear HAa' gga ea)
                | (with_reducible refine wpl_seg_load aggE sizeE (.tmp 10) rfl rfl Xa.out 0 [.string x.n, .int .i64 x.i] rfl rfl rfl ?_)
                | (at_builtin; (refine wpl_append_one (v := .slice Al NP cl) hi hz rfl hs hby rfl (.tmp 59) (.tmp 61) rfl hPN.out rfl OLa.out ⟨wa.heap.size, 0, none⟩ 1 x rfl _ RO.out (by omega) LBa ?_); intro A2 c2 wb Ob gb apb; have HOb := Lib.hid Ob; have HGb := Lib.hid gb; have HPb := Lib.hid apb; clear Ob gb apb LBa))
              have hga : ∀ k, k < ga + 2 → some k ≠ (Value.slice Al NP cl).ownBlock := fun k hk e => by have := (hLB.out k e.symm).1; omega
              have hnr : (Value.slice A' RN c').ownBlock = none ∨ (Value.slice A' RN c').ownBlock ≠ (Value.slice Al NP cl).ownBlock := by
                cases hob : (Value.slice A' RN c').ownBlock with
                | none => exact .inl rfl
                | some k => exact .inr (fun e => by have h1 := hNB.out k hob; have h2 := hLB.out k e.symm; omega)
              have hap2 : ∀ k, (Value.slice A' RN c').ownBlock = some k → (Value.slice A2 (NP + 1) c2).ownBlock ≠ some k := fun k h1 h2 => by
                have h3 := hNB.out k h1
                rcases HPb.out with h4 | h4
                · have h5 := hLB.out k (h4 ▸ h2)
                  omega
                · rw [h4, World.size_alloc, Sa.out] at h2
                  cases h2
                  omega
              exact ⟨⟨q + 1, res, P ++ [x], A', A2, c', c2, RN, NP + 1, by omega, rfl, by go_num, HRN, Lib.hid (by rw [List.length_append, hPN.out]; rfl), HDIR, Lib.hid (HPERM.out.trans ((hP.out.cons x).trans (List.perm_append_singleton x P).symm)), Lib.hid (HAa.out.grown HGb.out (hga ga (by omega))), Lib.hid (HBa.out.grown HGb.out (hga (ga + 1) (by omega))), Lib.hid (World.ownsRow.kept ONa.out HGb.out hnr), HOb, Lib.hid hap2, Lib.hid (Ta.out.grown HGb.out Ta.out.size (fun k e => by have := (hLB.out k e).1; have := LG.out; omega))⟩, by simp [intOf]; omega⟩
          · have d3 : decide ((100 : Int) < (st.size : Int)) = true := by simp; omega
            go_wp2_with fail
            go_ret
            exact ⟨rfl, hH.out⟩
        · obtain rfl : q = XL := by omega
          clear hlt hq
          go_wp2_with fail
          go_loopw [66] (fun i wx => ∃ (k : Nat) (M : List EN), k ≤ ZL ∧ i = .int .i64 k ∧ Hid (L.Perm M) ∧ Hid (M.length = NP) ∧ Hid (Blk wx ga 24 [.int .i64 2, .int .i64 0, .slice Aa NA ca]) ∧ Hid (Blk wx (ga + 1) 24 [.int .i64 2, .int .i64 0, .slice none 0 0]) ∧ Hid (OwnE wx (ga + 2) (.slice Aa NA ca) L) ∧ Hid (OwnE wx (ga + 2) (.slice Al NP cl) M) ∧ Hid (Below w.heap.size w wx)) (fun i _ => ZL - (intOf i).toNat)
          case atStart => exact ⟨0, P, by omega, rfl, hP, hPN, hA, hB, hOA, hOL, hH⟩
          case round =>
            clear hP hPN hA hB hOA hOL hH
            obtain ⟨k, M, hk, rfl, hP, hMN, hA, hB, hOA, hOL, hH⟩ := hrel
            by_cases hltz : k < ZL
            · obtain ⟨az, rfl, haz, hcz⟩ := ZR.out.at_ (k := k) (by simpa [HZL.out] using hltz)
              rw [List.getElem_map] at hcz
              obtain ⟨z, hzq⟩ : ∃ z, z = zs[k]'(by rw [HZL.out]; exact hltz) := ⟨_, rfl⟩
              rw [← hzq] at hcz
              have hcz2 := (hH.out.cell (p := az.add k) (by rw [add_block]; exact haz)).trans hcz
              clear hzq hcz
              by_cases h0 : NP = 0
              · have d3 : (NP : Int) = 0 := by omega
                have d4 : decide ((0 : Int) < (NP : Int)) = false := by rw [decide_eq_false_iff_not]; omega
                go_wp2_with fail
                exact ⟨⟨k + 1, M, by omega, by go_num, hP, hMN, hA, hB, hOA, hOL, hH⟩, by simp [intOf]; omega⟩
              · have d4 : decide ((0 : Int) < (NP : Int)) = true := by simp; omega
                obtain ⟨g, rfl, hgb⟩ := ownE_addr hOL.out (by have := hMN.out; omega)
                have a1 := and_low16 z
                have hlow : low16 z < 65536 := Nat.mod_lt _ (by omega)
                obtain ⟨zl, hzl⟩ : ∃ zl, zl = low16 z := ⟨_, rfl⟩
                rw [← hzl] at a1 hlow
                clear hzl
                obtain ⟨x, hx⟩ : ∃ x, x = k % NP := ⟨_, rfl⟩
                obtain ⟨y, hy⟩ : ∃ y, y = zl % NP := ⟨_, rfl⟩
                have hxl2 : x < NP := by rw [hx]; exact Nat.mod_lt _ (by omega)
                have hyl2 : y < NP := by rw [hy]; exact Nat.mod_lt _ (by omega)
                have ex : (k : Int) % (NP : Int) = (x : Int) := by rw [hx]; exact (Int.natCast_emod k NP).symm
                have ey : (zl : Int) % (NP : Int) = (y : Int) := by rw [hy]; exact (Int.natCast_emod zl NP).symm
                have ex2 : Int.tmod (k : Int) (NP : Int) = (x : Int) := by rw [Int.tmod_eq_emod_of_nonneg (by omega), ex]
                have ey2 : Int.tmod (zl : Int) (NP : Int) = (y : Int) := by rw [Int.tmod_eq_emod_of_nonneg (by omega), ey]
                have hn0 : ¬ ((NP : Int) = 0) := by omega
                clear hx hy
                go_wp2_with fail
                go_quiet (fail)
                clear a1 ex ey ex2 ey2 hn0 d4 hcz2
                go_wp2_with fail
                obtain ⟨W2, hW2⟩ : ∃ W2, W2 = (wr.drewN nq).drew := ⟨_, rfl⟩
                have O2 := Lib.hid (show OwnE W2 (ga + 2) (.slice (some ⟨g, 0, none⟩) NP cl) M by rw [hW2]; exact hOL.out)
                have T2 := Lib.hid (show Below w.heap.size w W2 by rw [hW2]; exact ⟨hH.out.os, hH.out.tape, hH.out.output, hH.out.size, hH.out.block⟩)
                have HA2 := Lib.hid (show Blk W2 ga 24 _ by rw [hW2]; exact hA.out)
                have HB2 := Lib.hid (show Blk W2 (ga + 1) 24 _ by rw [hW2]; exact hB.out)
                have OA2 := Lib.hid (show OwnE W2 (ga + 2) (.slice Aa NA ca) L by rw [hW2]; exact hOA.out)
                clear hOL hH hA hB hOA
                obtain ⟨p, hp⟩ : ∃ p, p = atE M x := ⟨_, rfl⟩
                obtain ⟨r, hr⟩ : ∃ r, r = atE M y := ⟨_, rfl⟩
                have hxm : x < M.length := by have := hMN.out; omega
                have hym : y < M.length := by have := hMN.out; omega
                have cx0 := Lib.hid ((ownE_cell hMN.out O2.out (x * 2) (by omega)).trans (erow_at hxm hp 0 rfl))
                have cy0 := Lib.hid ((ownE_cell hMN.out O2.out (y * 2) (by omega)).trans (erow_at hym hr 0 rfl))
                have fx0 := Lib.hid (ownE_free hMN.out O2.out (x * 2))
                have cx1 := Lib.hid ((ownE_cell hMN.out O2.out (x * 2 + 1) (by omega)).trans (erow_at hxm hp 1 rfl))
                have cy1 := Lib.hid ((ownE_cell hMN.out O2.out (y * 2 + 1) (by omega)).trans (erow_at hym hr 1 rfl))
                have fx1 := Lib.hid (ownE_free hMN.out O2.out (x * 2 + 1))
                have hym2 : y < (M.set x r).length := by rw [List.length_set]; exact hym
                have hMN3 : (M.set x r).length = NP := by rw [List.length_set]; exact hMN.out
                obtain ⟨W3, hW3⟩ : ∃ W3, W3 = (W2.setCell ⟨g, x * 2, none⟩ (.string r.n)).setCell ⟨g, x * 2 + 1, none⟩ (.int .i64 r.i) := ⟨_, rfl⟩
                have O3 := Lib.hid (show OwnE W3 (ga + 2) (.slice (some ⟨g, 0, none⟩) NP cl) (M.set x r) by rw [hW3]; exact ownE_put hMN.out O2.out hxm r)
                have g23 : W2.grownBy W3 (some g) := by rw [hW3]; exact only_trans (only_set _ ⟨g, x * 2, none⟩ _) (only_set _ ⟨g, x * 2 + 1, none⟩ _)
                have d0 := Lib.hid ((ownE_cell hMN3 O3.out (y * 2) (by omega)).trans (erow_at hym2 rfl 0 rfl))
                have k0 := Lib.hid (ownE_free hMN3 O3.out (y * 2))
                have d1 := Lib.hid ((ownE_cell hMN3 O3.out (y * 2 + 1) (by omega)).trans (erow_at hym2 rfl 1 rfl))
                have k1 := Lib.hid (ownE_free hMN3 O3.out (y * 2 + 1))
                obtain ⟨W4, hW4⟩ : ∃ W4, W4 = (W3.setCell ⟨g, y * 2, none⟩ (.string p.n)).setCell ⟨g, y * 2 + 1, none⟩ (.int .i64 p.i) := ⟨_, rfl⟩
                have O4 := Lib.hid (show OwnE W4 (ga + 2) (.slice (some ⟨g, 0, none⟩) NP cl) (swapE M x y) by rw [hW4, swapE, ← hp, ← hr]; exact ownE_put (by rw [List.length_set]; exact hMN.out) O3.out hym2 p)
                have g24 : W2.grownBy W4 (some g) := only_trans g23 (by rw [hW4]; exact only_trans (only_set _ ⟨g, y * 2, none⟩ _) (only_set _ ⟨g, y * 2 + 1, none⟩ _))
                have HA4 := Lib.hid (HA2.out.grown g24 (by simp only [ne_eq, Option.some.injEq]; omega))
                have HB4 := Lib.hid (HB2.out.grown g24 (by simp only [ne_eq, Option.some.injEq]; omega))
                have OA4 : Hid (OwnE W4 (ga + 2) (.slice Aa NA ca) L) := Lib.hid (World.ownsRow.kept OA2.out g24 (.inr (fun e => hap.out g e rfl)))
                have T4 := Lib.hid (T2.out.grown g24 T2.out.size (fun k e => by cases e; have := LG.out; omega))
                have PZ := Lib.hid (hP.out.trans (swapE_perm hxm hym).symm)
                have LZ : Hid ((swapE M x y).length = NP) := Lib.hid (by rw [swapE_length]; exact hMN.out)
                have HW3 := Lib.hid hW3
                have HW4 := Lib.hid hW4
                clear hp hr hxm hym hym2 hMN3 hW3 hW4 g23 g24 HA2 HB2 OA2 T2
                refine wp_region_held_drew (S := (fun _ => True)) (by kernel_rfl) trivial (fun _ => ?_)
                refine wpAnyH_take (i := 0) (v := .slice (some ⟨g, 0, none⟩) NP cl) rfl (by kernel_rfl) (by kernel_rfl) (by kernel_rfl) (fun _ _ _ h => h) (Or.inl ⟨by kernel_rfl, fun w _ => by go_simp⟩) trivial ?_
                refine wpAnyH_take (i := 1) (v := .int .i64 (x : Int)) rfl (by kernel_rfl) (by kernel_rfl) (by kernel_rfl) (fun _ _ _ h => h) (Or.inl ⟨by kernel_rfl, fun w _ => by go_simp⟩) trivial ?_
                refine wpAnyH_take (i := 2) (v := .slice (some ⟨g, 0, none⟩) NP cl) rfl (by kernel_rfl) (by kernel_rfl) (by kernel_rfl) (fun _ _ _ h => h) (Or.inl ⟨by kernel_rfl, fun w _ => by go_simp⟩) trivial ?_
                refine wpAnyH_take (i := 3) (v := .int .i64 (y : Int)) rfl (by kernel_rfl) (by kernel_rfl) (by kernel_rfl) (fun _ _ _ h => h) (Or.inl ⟨by kernel_rfl, fun w _ => by go_simp⟩) trivial ?_
                refine wpAnyH_take (i := 4) (v := .slice (some ⟨g, 0, none⟩) NP cl) rfl (by kernel_rfl) (by kernel_rfl) (by kernel_rfl) (fun _ _ _ h => h) (Or.inl ⟨by kernel_rfl, fun w _ => by go_simp⟩) trivial ?_
                refine wpAnyH_take (i := 5) (v := .int .i64 (y : Int)) rfl (by kernel_rfl) (by kernel_rfl) (by kernel_rfl) (fun _ _ _ h => h) (Or.inl ⟨by kernel_rfl, fun w _ => by go_simp⟩) trivial ?_
                refine wpAnyH_take (i := 6) (v := .pointer (some ⟨g, y * 2, none⟩)) rfl (by kernel_rfl) (by kernel_rfl) (by kernel_rfl) (fun _ _ _ h => h) (Or.inl ⟨by kernel_rfl, fun w _ => by go_simp⟩) trivial ?_
                refine wpAnyH_take (i := 8) (v := .slice (some ⟨g, 0, none⟩) NP cl) rfl (by kernel_rfl) (by kernel_rfl) (by kernel_rfl) (fun _ _ _ h => h) (Or.inl ⟨by kernel_rfl, fun w _ => by go_simp⟩) trivial ?_
                refine wpAnyH_take (i := 9) (v := .int .i64 (x : Int)) rfl (by kernel_rfl) (by kernel_rfl) (by kernel_rfl) (fun _ _ _ h => h) (Or.inl ⟨by kernel_rfl, fun w _ => by go_simp⟩) trivial ?_
                refine wpAnyH_take (i := 10) (v := .pointer (some ⟨g, x * 2, none⟩)) rfl (by kernel_rfl) (by kernel_rfl) (by kernel_rfl) (fun _ _ _ h => h) (Or.inl ⟨by kernel_rfl, fun w _ => by go_simp⟩) trivial ?_
                rw [← hW2]
                clear hW2
                refine wpAnyH_ready (rs := [7, 11]) (by kernel_rfl) (by simp) (AllReadyH.cons rfl (fun K hK => ?_) (AllReadyH.cons rfl (fun K hK => ?_) AllReadyH.nil))
                · have zcy0 := cy0.out
                  have zcy1 := cy1.out
                  go_simp
                  clear zcy0 zcy1
                  refine hK.out _ _ trivial (fun _ => ?_)
                  clear hK K
                  refine wpAnyH_ready (rs := [11]) (by kernel_rfl) (by simp) (AllReadyH.cons rfl (fun K hK => ?_) AllReadyH.nil)
                  have zcx0 := cx0.out
                  have zcx1 := cx1.out
                  go_simp
                  clear zcx0 zcx1
                  refine hK.out _ _ trivial (fun _ => ?_)
                  clear hK K
                  refine wpAnyH_take (i := 12) (v := .pointer (some ⟨g, x * 2, none⟩)) rfl (by kernel_rfl) (by kernel_rfl) (by kernel_rfl) (fun _ _ _ h => h) (Or.inl ⟨by kernel_rfl, fun w _ => by go_simp⟩) trivial ?_
                  refine wpAnyH_ready (rs := [13]) (by kernel_rfl) (by simp) (AllReadyH.cons rfl (fun K hK => ?_) AllReadyH.nil)
                  have zfx0 := fx0.out
                  have zfx1 := fx1.out
                  have zcx0 := cx0.out
                  have zcx1 := cx1.out
                  go_simp
                  clear zfx0 zfx1
                  clear zcx0 zcx1
                  rw [← HW3.out]
                  refine hK.out _ _ trivial (fun _ => ?_)
                  clear hK K
                  refine wpAnyH_take (i := 14) (v := .pointer (some ⟨g, y * 2, none⟩)) rfl (by kernel_rfl) (by kernel_rfl) (by kernel_rfl) (fun _ _ _ h => h) (Or.inl ⟨by kernel_rfl, fun w _ => by go_simp⟩) trivial ?_
                  refine wpAnyH_ready (rs := [15]) (by kernel_rfl) (by simp) (AllReadyH.cons rfl (fun K hK => ?_) AllReadyH.nil)
                  have zd0 := d0.out
                  have zd1 := d1.out
                  have zk0 := k0.out
                  have zk1 := k1.out
                  go_simp
                  clear zd0 zd1
                  clear zk0 zk1
                  rw [← HW4.out]
                  refine hK.out _ _ trivial (fun _ => ?_)
                  clear hK K
                  refine wpAnyH_done (by kernel_rfl) ?_ _
                  go_wp2_with fail
                  exact ⟨⟨k + 1, swapE M x y, by omega, by go_num, PZ, LZ, HA4, HB4, OA4, O4, T4⟩, by simp [intOf]; omega⟩
                · have zcx0 := cx0.out
                  have zcx1 := cx1.out
                  go_simp
                  clear zcx0 zcx1
                  refine hK.out _ _ trivial (fun _ => ?_)
                  clear hK K
                  refine wpAnyH_ready (rs := [7]) (by kernel_rfl) (by simp) (AllReadyH.cons rfl (fun K hK => ?_) AllReadyH.nil)
                  have zcy0 := cy0.out
                  have zcy1 := cy1.out
                  go_simp
                  clear zcy0 zcy1
                  refine hK.out _ _ trivial (fun _ => ?_)
                  clear hK K
                  refine wpAnyH_take (i := 12) (v := .pointer (some ⟨g, x * 2, none⟩)) rfl (by kernel_rfl) (by kernel_rfl) (by kernel_rfl) (fun _ _ _ h => h) (Or.inl ⟨by kernel_rfl, fun w _ => by go_simp⟩) trivial ?_
                  refine wpAnyH_ready (rs := [13]) (by kernel_rfl) (by simp) (AllReadyH.cons rfl (fun K hK => ?_) AllReadyH.nil)
                  have zfx0 := fx0.out
                  have zfx1 := fx1.out
                  have zcx0 := cx0.out
                  have zcx1 := cx1.out
                  go_simp
                  clear zfx0 zfx1
                  clear zcx0 zcx1
                  rw [← HW3.out]
                  refine hK.out _ _ trivial (fun _ => ?_)
                  clear hK K
                  refine wpAnyH_take (i := 14) (v := .pointer (some ⟨g, y * 2, none⟩)) rfl (by kernel_rfl) (by kernel_rfl) (by kernel_rfl) (fun _ _ _ h => h) (Or.inl ⟨by kernel_rfl, fun w _ => by go_simp⟩) trivial ?_
                  refine wpAnyH_ready (rs := [15]) (by kernel_rfl) (by simp) (AllReadyH.cons rfl (fun K hK => ?_) AllReadyH.nil)
                  have zd0 := d0.out
                  have zd1 := d1.out
                  have zk0 := k0.out
                  have zk1 := k1.out
                  go_simp
                  clear zd0 zd1
                  clear zk0 zk1
                  rw [← HW4.out]
                  refine hK.out _ _ trivial (fun _ => ?_)
                  clear hK K
                  refine wpAnyH_done (by kernel_rfl) ?_ _
                  go_wp2_with fail
                  exact ⟨⟨k + 1, swapE M x y, by omega, by go_num, PZ, LZ, HA4, HB4, OA4, O4, T4⟩, by simp [intOf]; omega⟩
            · obtain rfl : k = ZL := by omega
              clear hltz hk
              have hNA8 : NA ≤ 8 := by rw [← hLN.out]; exact hD.out.2.2.1
              have dn : decide ((NA : Int) ≤ 8) = true := by simp; omega
              obtain ⟨BN, hBN⟩ : ∃ BN, BN = (IN.bytes ⟨2, 0, L⟩).length := ⟨_, rfl⟩
              have hB224 := dir_bytes hD.out
              rw [← hBN] at hB224
              have db : decide ((BN : Int) ≤ 224) = true := by simp; omega
              have HBN := Lib.hid hBN
              clear hBN
              have KW := Lib.hid (with_any ⟨2, 0, []⟩ (.slice none 0 0) (.slice Al NP cl) M wr (Ents.nil 0 (by simp [maxLen])) hOL.out.ents (by rw [← hP.out.length_eq, hLN.out]; omega))
              rw [with_same hD.out hP.out] at KW
              unfold WithP at KW
              simp only at KW
              rw [hLN.out] at KW
              clear hap
              go_upto_region 27 with (first
                | (with_reducible refine wpl_seg_load aggI sizeI (.tmp 6) rfl rfl hB.out 0 [.int .i64 2, .int .i64 0, .slice none 0 0] rfl rfl rfl ?_)
                | ((with_reducible refine KW.out.mono ?_); rintro e w8 ⟨⟨A', c', rfl, O8'⟩, b8⟩; have O8 := Lib.hid O8'; have HH8 := Lib.hid b8; have HA8 := Lib.hid (hA.out.after b8); have HB8 := Lib.hid (hB.out.after b8); have OA8 := Lib.hid (hOA.out.kept b8); have T8 := Lib.hid (hH.out.trans (b8.mono hH.out.size)); clear KW b8 O8')
                | ((with_reducible refine wpl_seg_store sizeI (.tmp 6) (.tmp 101) rfl rfl HB8.out 0 [.int .i64 2, .int .i64 0, .slice A' NA c'] rfl (Nat.le_refl _) (by simp [Value.oneCell']) rfl rfl _ rfl ?_); intro w9 HB9' g9 e9; have HB9 := Lib.hid HB9'; have G9 := Lib.hid g9; clear HB9' g9 e9))
              have H89 := (Below.refl (ga + 1) w8).grown G9.out (by have := HB8.out.lt; omega) (fun k e => by cases e; exact Nat.le_refl _)
              have HA9 := Lib.hid (HA8.out.below H89 (by omega))
              have hwg : w.heap.size ≤ ga + 1 := by have := LG.out; omega
              have OA9 := Lib.hid (OwnE.grown OA8.out (by omega) G9.out)
              have OB9 := Lib.hid ((OwnE.grown O8.out hB.out.lt G9.out))
              have T9 := Lib.hid (T8.out.trans (H89.mono hwg))
              have KR := Lib.hid (write_yes ⟨2, 0, L⟩ (.slice Aa NA ca) w9 OA9.out.ents (dir_ok hD.out))
              rw [← HBN.out] at KR
              simp only at KR
              clear H89 hwg HA8 HB8 OA8 O8 T8 G9 hA hB hOA hOL hH HH8
              go_upto_region 28 with (first
                | (with_reducible refine wpl_seg_load aggI sizeI (.tmp 5) rfl rfl HA9.out 0 [.int .i64 2, .int .i64 0, .slice Aa NA ca] rfl rfl rfl ?_)
                | ((with_reducible refine KR.out.mono ?_); rintro e wa ⟨gb, cb, rfl, _, ba⟩; have Ba := Lib.hid ba; clear KR ba))
              have HAa := Lib.hid (HA9.out.after Ba.out)
              have HBa := Lib.hid (HB9.out.after Ba.out)
              have OAa := Lib.hid (OA9.out.kept Ba.out)
              have OBa := Lib.hid (OB9.out.kept Ba.out)
              have Ta := Lib.hid (T9.out.trans (Ba.out.mono T9.out.size))
              have KS := Lib.hid (same_yes ⟨2, 0, L⟩ (.slice Aa NA ca) (.slice A' NA c') wa OAa.out.ents OBa.out.ents)
              simp only at KS
              clear HA9 HB9 OA9 OB9 T9 OAa OBa
              go_wp2_with (first
                | (with_reducible refine wpl_seg_load aggI sizeI (.tmp 5) rfl rfl HAa.out 0 [.int .i64 2, .int .i64 0, .slice Aa NA ca] rfl rfl rfl ?_)
                | (with_reducible refine wpl_seg_load aggI sizeI (.tmp 6) rfl rfl HBa.out 0 [.int .i64 2, .int .i64 0, .slice A' NA c'] rfl rfl rfl ?_)
                | ((with_reducible refine KS.out.mono ?_); rintro e wb ⟨rfl, bb⟩; have cA2 : wb.cell? ⟨ga, 2, none⟩ = some (.slice Aa NA ca) := (HAa.out.after bb).cell 2; have Tb := Lib.hid (Ta.out.trans (bb.mono Ta.out.size)); clear KS bb))
              go_ret
              exact ⟨rfl, Tb.out⟩
    · have d2 : decide ((60 : Int) < (ZL : Int)) = true := by simp; omega
      go_wp2_with fail
      go_ret
      exact ⟨rfl, T1.out⟩
  · have d1 : decide ((40 : Int) < (XL : Int)) = true := by simp; omega
    go_wp2_with fail
    go_ret
    exact ⟨rfl, T1.out⟩
theorem inodeFull_any (vx vo : Value) (w : World) (hx : ∃ xs, Strs w w.heap.size vx xs) (hz : ∃ zs, Nums w w.heap.size .i64 vo zs) :
    Calls Try.prog 4 #[vx, vo] w fun e w' => e = .returned (.bool true) ∧ Below w.heap.size w w' := by
  obtain ⟨xs, hx⟩ := hx
  obtain ⟨zs, hz⟩ := hz
  exact inodeFull_walk vx vo xs zs w hx hz
end Go.Proofs.Ytkpojlnfagonbaa


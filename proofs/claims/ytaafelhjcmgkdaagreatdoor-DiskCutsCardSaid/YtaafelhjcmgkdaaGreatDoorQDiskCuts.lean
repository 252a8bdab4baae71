/- The walk of DiskCuts: it answers true, and changes nothing that was there. Condition: the table of the check sum holds its sixteen numbers. -/
import Derived.Test.YtaafelhjcmgkdaaGreatDoorQDiskG
import Derived.Test.YtaafelhjcmgkdaaGreatDoorQDiskE
namespace Go.Proofs.YtaafelhjcmgkdaaGreatDoor
open Go.RowKit
theorem RelC.ofHas {b : Bk} (h : Has b []) : RelC RB.blank b := ⟨fun k hk _ => .inl ((h.ff k (Nat.zero_le _) hk).trans (ffs_at hk).symm), fun _ => h.nx, fun _ k hk _ => h.ff k (Nat.zero_le _) hk, fun _ _ _ h => absurd h (Nat.not_lt_zero _)⟩
theorem RD.tear {w : World} {m g : Nat} {Bs : List RB} (h : RD w m g Bs) {b : Nat} {B : RB} (hB : Bs[b]? = some B) (tv : Bool) :
    RD (w.setCell ⟨g, b * 2074 + 2073, none⟩ (.bool tv)) m g (Bs.set b (B.setTorn tv)) ∧ w.cell? ⟨g, b * 2074 + 2073, none⟩ = some (.bool B.torn) ∧ w.frozen? ⟨g, b * 2074 + 2073, none⟩ = false ∧ w.grownBy (w.setCell ⟨g, b * 2074 + 2073, none⟩ (.bool tv)) (some g) := by
  have hl : b < Bs.length := get_lt hB
  have hb : Bs[b]'hl = B := Option.some.inj ((List.getElem?_eq_getElem hl).symm.trans hB)
  have hok : B.ok := h.rg.oks B (List.mem_of_getElem? hB)
  have N8 := h.rg.blk.set (b * 2074 + 2073) (.bool tv)
  rw [h.rg.setCell hl (i := 2073) (by omega) (.bool tv) (B' := B.setTorn tv) (by rw [hb]; exact RB.set_torn hok tv)] at N8
  have g8 : w.grownBy (w.setCell ⟨g, b * 2074 + 2073, none⟩ (.bool tv)) (some g) := ⟨rfl, rfl, rfl, by simp, fun k _ hk => heap_setCell_other w _ k _ (by simpa using hk)⟩
  refine ⟨h.set (b := b) (RB.setTorn_ok hok tv) N8 g8, ?_, h.rg.blk.free _, g8⟩
  rw [h.rg.cell hl (by omega), hb, RB.row_torn hok]
set_option maxRecDepth 100000 in
set_option maxHeartbeats 64000000 in
theorem cuts7_main (A : Option Addr) (cap : Nat) (os : List Op7) (A2 : Option Addr) (cap2 : Nat) (zs : List Int) (w : World) (ht : Tab w) (hs : Script7 w w.heap.size (.slice A os.length cap) os) (hv : Nums w w.heap.size .i64 (.slice A2 zs.length cap2) zs) (h60 : os.length ≤ 60) (h3 : zs.length ≤ 2) :
    Calls Tryz.prog 4 #[.slice A os.length cap, .slice A2 zs.length cap2] w fun e w' => e = .returned (.bool true) ∧ Below w.heap.size w w' := by
  have d1 : decide ((60 : Int) < (os.length : Int)) = false := by simp; omega
  have d2 : decide ((2 : Int) < (zs.length : Int)) = false := by simp; omega
  have ks := dspeaks_any w ht
  have z := zeroOp7
  have HS := Lib.hid hs
  have HV := Lib.hid hv
  have HT := Lib.hid ht
  have H60 := Lib.hid h60
  have H3 := Lib.hid h3
  clear hs hv ht h60 h3
  go_enter Tryz.func4, Tryz.ntmps4
  go_wp2_with ((with_reducible refine ks.mono ?_); rintro e w1 ⟨rfl, b1⟩)
  have B1 := Lib.hid b1
  have kl := laid_any 24 (by omega) fresh24d loss24 w1 (HT.out.below b1 HT.out.lt)
  rw [show ((24 : Nat) : Int) = 24 from rfl] at kl
  clear ks b1
  go_wp2_with ((with_reducible refine kl.mono ?_); rintro e w2 ⟨d, t, a, X0, rfl, hX⟩)
  have HX := Lib.hid hX
  have h0 : Hid (X0.l.losses = 0) := Lib.hid (by rw [hX.lay]; exact loss24)
  have B2 : Hid (Below w.heap.size w w2) := Lib.hid (B1.out.trans (hX.below.mono B1.out.size))
  have HF : Hid (∀ j, a.disk t d j → w.heap.size ≤ j) := Lib.hid (fun j hj => Nat.le_trans B1.out.size (hX.far j hj))
  have kn := rnew_any w2
  clear kl hX B1
  go_wp2_with ((with_reducible refine kn.mono ?_); rintro e W ⟨m, g, rfl, hm, hg, hR, b3⟩)
  have HD := Lib.hid (HX.out.one.after b3)
  have HH : Hid (HasAll X0 24 (fun _ => [])) := Lib.hid (fun y hy => ⟨by simp, (fun q h => by cases h), HX.out.blank y hy⟩)
  have HR := Lib.hid hR
  have HB := Lib.hid (B2.out.trans (b3.mono B2.out.size))
  have HMG : Hid (¬ a.disk t d m ∧ ¬ a.disk t d g ∧ g ≠ 0) := Lib.hid ⟨fun q => Nat.lt_irrefl _ (Nat.lt_of_lt_of_le (HX.out.one.all_lt _ q) hm), fun q => Nat.lt_irrefl _ (Nat.lt_of_lt_of_le (HX.out.one.all_lt _ q) hg), fun e => by have h1 := HT.out.lt; have h2 := B2.out.size; rw [← e] at h1; omega⟩
  have HG : Hid (w.heap.size ≤ g) := Lib.hid (Nat.le_trans B2.out.size hg)
  have HL : Hid (X0.l.losses = 0) := h0
  clear kn hm hg hR b3 h0 B2 HX
  go_wp2_with fail
  go_loopw [7, 32] (fun v i wr => ∃ j : Nat, j ≤ zs.length ∧ i = .int .i64 j ∧ ∃ A c L, v = .slice A j c ∧ L.length = j ∧ (∀ z ∈ L, z < 100) ∧ wr.ownsRow W.heap.size 3 1 (.slice A j c) j (zv L) ∧ Below W.heap.size W wr) (fun _ i _ => zs.length - (intOf i).toNat)
  case atStart => exact ⟨0, Nat.zero_le _, rfl, some ⟨W.heap.size, 0, none⟩, 0, [], rfl, rfl, (fun z h => by cases h), ⟨rfl, .inr ⟨W.heap.size, 0, #[], rfl, Nat.le_refl _, heap_alloc_last W _, Nat.le_refl _, Nat.zero_le _, rfl, rfl⟩⟩, (Below.refl _ _).alloc (Nat.le_refl _) _⟩
  case round =>
    rename_i wr
    obtain ⟨j, hj, rfl, A', c, L, rfl, hLj, hL, hO, hB⟩ := hrel
    by_cases hlt : j < zs.length
    · obtain ⟨p, rfl, x0, hcell⟩ := nums_at HV.out hlt (HB.out.trans (hB.mono HB.out.size))
      obtain ⟨x, hx, hx4⟩ := low3 x0 (k := 3) (m := 8) rfl (by omega)
      rw [show ((8 - 1 : Nat) : Int) = 7 from rfl] at hx
      have hj3 : (j : Int) < 2 := by have := H3.out; omega
      have hx4i : (x : Int) < 8 := by omega
      have hbr := hB.alloc hB.size (.cells #[.int .i64 (8 * (j : Int) + (x : Int))] 3)
      have hbs : W.heap.size ≤ (wr.alloc (.cells #[.int .i64 (8 * (j : Int) + (x : Int))] 3)).heap.size := hbr.size
      have R2 : Row (wr.alloc (.cells #[.int .i64 (8 * (j : Int) + (x : Int))] 3)) (wr.heap.size + 1) (some ⟨wr.heap.size, 0, none⟩) [.int .i64 (8 * (j : Int) + (x : Int))] := Row.new wr #[.int .i64 (8 * (j : Int) + (x : Int))] 3 (0, 0) wr.heap.size rfl (Nat.lt_succ_self _)
      have O2 := World.ownsRow.alloc hO (.cells #[.int .i64 (8 * (j : Int) + (x : Int))] 3)
      have HB2 := Lib.hid hbr
      have HOO := Lib.hid O2
      have HRR := Lib.hid R2
      have HL2 := Lib.hid (And.intro hLj (And.intro hL (And.intro hx4 hlt)))
      have hmx : j + 1 ≤ maxLen := by simp only [maxLen]; have := H3.out; omega
      have HM := Lib.hid hmx
      clear hbr R2 O2 hO hB hL hLj hmx hx4
      go_wp2_with (at_builtin; refine wpl_append_vals dintTy rfl (.tmp 37) (.tmp 43) rfl j rfl HOO.out _ _ _ [.int .i64 (8 * (j : Int) + (x : Int))] 1 rfl rfl HRR.out (by intro u hu; simp at hu; subst hu; rfl) (by omega) HM.out hbs (j + 1) rfl ?_; intro A8 c8 w8 O8 g8 h8)
      have b9 : Below W.heap.size W w8 := HB2.out.grown g8 hbs (fun k e => (World.ownsRow.lt HOO.out k e).1)
      have O9 : w8.ownsRow W.heap.size 3 1 (.slice A8 (j + 1) c8) (j + 1) (zv (L ++ [8 * j + x])) := by
        unfold zv
        rw [List.map_append]
        have e : (([8 * j + x] : List Nat).map fun z : Nat => Value.int .i64 (z : Int)) = [.int .i64 (8 * (j : Int) + (x : Int))] := by
          simp only [List.map_cons, List.map_nil]
          rw [show ((8 * j + x : Nat) : Int) = 8 * (j : Int) + (x : Int) by omega]
        rw [e]
        exact O8
      exact ⟨⟨j + 1, by omega, by go_num, A8, c8, _, rfl, by rw [List.length_append, HL2.out.1]; rfl, fun z hz => (by
        rcases List.mem_append.1 hz with q | q
        · exact HL2.out.2.1 z q
        · rw [List.mem_singleton.1 q]; have := HL2.out.2.2.1; omega), O9, b9⟩, by simp [intOf]; omega⟩
    · obtain rfl : j = zs.length := by omega
      obtain ⟨W2, hW2⟩ : ∃ W2, W2 = wr := ⟨_, rfl⟩
      subst hW2
      have hD2 := HD.out.after hB
      have hR2 := HR.out.after hB
      have hn4 := nums_own hO hLj hL
      have c0 := hD2.dk.cells.1
      have hll : (L.map fun z : Nat => (z : Int)).length = zs.length := by rw [List.length_map, hLj]
      have hsum : X0.l.losses + (if true = true then (L.map fun z : Nat => (z : Int)).length else 0) + (if true = true then 0 else (L.map fun z : Nat => (z : Int)).length) ≤ zs.length := by
        rw [hll, HL.out]
        simp
      have k4 := hD2.fail true _ _ (by rw [hll]; have := H3.out; omega) hn4 (Nat.le_trans hsum (by have := H3.out; omega))
      have HB2 := Lib.hid (HB.out.trans (hB.mono HB.out.size))
      have hH4 := Lib.hid (hasAll_told (pr := true) (zs := L.map fun z : Nat => (z : Int)) HH.out)
      have HS2 := Lib.hid hsum
      have HR2 := Lib.hid hR2
      clear hD2 hn4 hll hO hB HD HL HB HV hLj hL hj hlt hsum hR2
      go_wp2_with fail
      ((with_reducible refine k4.mono ?_); rintro e w5 ⟨rfl, bb, hb, hD, hc⟩)
      have B5 : Hid (Below w.heap.size w w5) := Lib.hid (HB2.out.trans (hc.below (fun j q => by rw [q]; exact HF.out _ (.inl (.inl (.inl rfl)))) HB2.out.size))
      have hR5 := HR2.out.chg hc (fun q => HMG.out.1 (by rw [q]; exact .inl (.inl (.inl rfl)))) (fun q => HMG.out.2.1 (by rw [q]; exact .inl (.inl (.inl rfl))))
      have hb5 : w.heap.size ≤ bb := Nat.le_trans HB2.out.size hb
      have HM3 : Hid (¬ (a.told true bb).disk t d m ∧ ¬ (a.told true bb).disk t d g ∧ g ≠ 0) := Lib.hid ⟨told_not HMG.out.1 HR2.out.hd.lt hb, told_not HMG.out.2.1 HR2.out.rg.lt hb, HMG.out.2.2⟩
      obtain ⟨a3, ha3⟩ : ∃ a3, a3 = a.told true bb := ⟨_, rfl⟩
      have HF3 : Hid (∀ j, a3.disk t d j → w.heap.size ≤ j) := Lib.hid (by rw [ha3]; exact told_far HF.out hb5)
      rw [← ha3] at hD HM3
      obtain ⟨X3, hX3⟩ : ∃ X3, X3 = DS.mk (X0.S.told true (L.map fun z : Nat => (z : Int))) X0.s X0.l X0.u := ⟨_, rfl⟩
      rw [← hX3] at hD hH4
      have T3 : Cut7 w5 d t m g a3 X3 _ _ 1 (List.replicate 18 RB.blank) := ⟨hD.zero, hR5, by simp, fun y B hB => (by
        rw [List.getElem?_replicate] at hB
        split at hB
        · rename_i hy
          cases hB
          exact RelC.ofHas (hH4.out y hy).2.2
        · cases hB), HM3.out⟩
      obtain ⟨f3, e3, HD3⟩ : ∃ f3 e3, Hid (Cut7 w5 d t m g a3 X3 f3 e3 1 (List.replicate 18 RB.blank)) := ⟨_, _, Lib.hid T3⟩
      clear k4 hD hc hb hb5 ha3 hX3 c0 HB2 T3 hR5 HR2 HS2 hH4 HH HR HMG HM3
      go_wp2_with fail
      go_loopw [5, 54] (fun vd i wr => ∃ j : Nat, j ≤ os.length ∧ i = .int .i64 j ∧ ∃ (d t : Nat) (X : DS) (f e : Nat) (Bs : List RB), vd = .pointer (some ⟨d, 0, none⟩) ∧ Cut7 wr d t m g a3 X f e (1 + 5 * j) Bs ∧ (∀ k, a3.disk t d k → w.heap.size ≤ k) ∧ Below w.heap.size w wr) (fun _ i _ => os.length - (intOf i).toNat)
      case atStart => exact ⟨0, Nat.zero_le _, rfl, d, t, X3, f3, e3, _, rfl, HD3.out, HF3.out, B5.out⟩
      case round =>
        rename_i wr
        clear HD3 B5 HF3
        obtain ⟨j, hj, rfl, d, t, X, f, e, Bs, rfl, hD, hF3, hB⟩ := hrel
        have HF3 := Lib.hid hF3
        clear hF3
        by_cases hlt : j < os.length
        · obtain ⟨p, rfl, hok, hld⟩ := HS.out.at_ hlt hB
          obtain ⟨o, ho⟩ : ∃ o, o = os[j] := ⟨_, rfl⟩
          rw [← ho] at hok hld
          obtain ⟨y, hy⟩ := u8_wf hok.byte
          have O2 := Blk.new wr 35 zOp7
          have hs7 := segSet_all (show zOp7.length = o.row.length from rfl)
          have hb6 : ∀ X, (wr.alloc (.cells zOp7.toArray 35)).grownBy X (some wr.heap.size) → Below wr.heap.size wr X := fun X g => ((Below.refl wr.heap.size wr).alloc (Nat.le_refl _) _).grown g (by simp) (fun k e => Nat.le_of_eq (Option.some.inj e))
          have hj60 : (j : Int) < 60 := by have := H60.out; omega
          have dlt : decide ((j : Int) < (os.length : Int)) = true := by simp; omega
          have hgp : Hid (¬ a3.disk t d wr.heap.size) := Lib.hid (fun q => Nat.lt_irrefl _ (hD.one.dk.lt _ q))
          have hqg : Hid (¬ wr.heap.size = g) := Lib.hid (fun q => by have := hD.rd.rg.lt; omega)
          have HJ : Hid (j < 60) := Lib.hid (by have := H60.out; omega)
          have HRL := Lib.hid (show o.row.length = 7 from rfl)
          have HF4 : Hid (∀ j, (a3.disk t d j ∨ j = g) → w.heap.size ≤ j) := Lib.hid (fun j hj => by
            rcases hj with hj | rfl
            · exact HF3.out j hj
            · exact HG.out)
          obtain ⟨x, hx, hx8⟩ := low3 o.k (k := 3) (m := 8) rfl (by omega)
          rw [show ((8 - 1 : Nat) : Int) = 7 from rfl] at hx
          obtain ⟨xn, hxn, hxn8⟩ := low3 o.n (k := 3) (m := 8) rfl (by omega)
          rw [show ((8 - 1 : Nat) : Int) = 7 from rfl] at hxn
          have HXN := Lib.hid (And.intro hxn hxn8)
          have HLT := Lib.hid hlt
          have HD := Lib.hid hD
          have HB := Lib.hid hB
          have HY := Lib.hid hy
          have hdc := fun (W : World) (hW : Below wr.heap.size wr W) => And.intro (hD.after hW).one.dk.cells.1 (hD.after hW).one.dk.dev.pc.cell.1
          have HDC := Lib.hid hdc
          clear hD hB hok ho hj hy hlt hxn hxn8 hdc
          by_cases c0 : x = 0
          · subst c0
            rw [show ((0 : Nat) : Int) = 0 from rfl] at hx
            clear hx8
            go_wp2_with (first
              | (with_reducible refine wpl_o7load (.tmp 57) rfl rfl rfl hld ?_)
              | ((with_reducible refine wpl_seg_store sizeOp7 (.tmp 11) (.tmp 58) rfl rfl O2 0 o.row rfl (Nat.le_refl _) (Op7.one _) rfl rfl _ hs7 ?_); intro w6 O6 g6 e6; clear e6; have B6 := hb6 _ g6; have q0 : w6.cell? ⟨wr.heap.size, 0, none⟩ = some (.int .i64 o.k) := O6.cell 0))
            obtain ⟨e1, e2⟩ := HDC.out _ B6.drew
            have O6d : Blk w6.drew wr.heap.size 35 o.row := O6
            have S0 : w6.drew.cell? ⟨d, 0, none⟩ = some (.pointer (some ⟨a3.c, 0, none⟩)) ∧ w6.drew.cell? ⟨a3.c, 0, none⟩ = some (.pointer (some ⟨a3.p, 0, none⟩)) ∧ Blk w6.drew wr.heap.size 35 o.row := ⟨e1, e2, O6d⟩
            clear q0 g6 e1 e2
            refine wp_region_held_drew (S := fun w' => w'.cell? ⟨d, 0, none⟩ = some (.pointer (some ⟨a3.c, 0, none⟩)) ∧ w'.cell? ⟨a3.c, 0, none⟩ = some (.pointer (some ⟨a3.p, 0, none⟩)) ∧ Blk w' wr.heap.size 35 o.row) (by kernel_rfl) S0 (fun _ => ?_)
            refine wpAnyH_take (i := 0) (v := .pointer (some ⟨d, 0, none⟩)) rfl (by kernel_rfl) (by kernel_rfl) (by kernel_rfl) (fun _ _ _ h => h) (Or.inl ⟨by kernel_rfl, fun w _ => by go_simp⟩) S0 ?_
            refine wpAnyH_take (i := 1) (v := .pointer (some ⟨d, 0, none⟩)) rfl (by kernel_rfl) (by kernel_rfl) (by kernel_rfl) (fun _ _ _ h => h) (Or.inl ⟨by kernel_rfl, fun w _ => by go_simp⟩) S0 ?_
            refine wpAnyH_take (i := 2) (v := .pointer (some ⟨d, 0, none⟩)) rfl (by kernel_rfl) (by kernel_rfl) (by kernel_rfl) (fun _ _ _ h => h) (Or.inl ⟨by kernel_rfl, fun w _ => by go_simp⟩) S0 ?_
            refine wpAnyH_take (i := 3) (v := .pointer (some ⟨a3.c, 0, none⟩)) rfl (by kernel_rfl) (by kernel_rfl) (by kernel_rfl) (fun _ _ _ h => h) (yields_one (ty := 30) (fun w => by kernel_rfl) (.tmp 89) (by kernel_rfl) (by kernel_rfl) (by kernel_rfl) (fun _ h => h.1)) S0 ?_
            refine wpAnyH_take (i := 4) (v := .pointer (some ⟨a3.c, 0, none⟩)) rfl (by kernel_rfl) (by kernel_rfl) (by kernel_rfl) (fun _ _ _ h => h) (Or.inl ⟨by kernel_rfl, fun w _ => by go_simp⟩) S0 ?_
            refine wpAnyH_take (i := 5) (v := .pointer (some ⟨a3.c, 0, none⟩)) rfl (by kernel_rfl) (by kernel_rfl) (by kernel_rfl) (fun _ _ _ h => h) (Or.inl ⟨by kernel_rfl, fun w _ => by go_simp⟩) S0 ?_
            refine wpAnyH_take (i := 6) (v := .pointer (some ⟨a3.p, 0, none⟩)) rfl (by kernel_rfl) (by kernel_rfl) (by kernel_rfl) (fun _ _ _ h => h) (yields_one (ty := 46) (fun w => by kernel_rfl) (.tmp 92) (by kernel_rfl) (by kernel_rfl) (by kernel_rfl) (fun _ h => h.2.1)) S0 ?_
            refine wpAnyH_take (i := 7) (v := .pointer (some ⟨wr.heap.size, 3, none⟩)) rfl (by kernel_rfl) (by kernel_rfl) (by kernel_rfl) (fun _ _ _ h => h) (Or.inl ⟨by kernel_rfl, fun w _ => by go_simp⟩) S0 ?_
            refine wpAnyH_take (i := 8) (v := .int .i64 o.n) rfl (by kernel_rfl) (by kernel_rfl) (by kernel_rfl) (fun _ _ _ h => h) (yields_one (ty := 3) (fun w => by kernel_rfl) (.tmp 94) (by kernel_rfl) (by kernel_rfl) (by kernel_rfl) (fun _ h => h.2.2.cell 3)) S0 ?_
            refine wpAnyH_take (i := 9) (v := .int .i64 (bits .and .i64 o.n 7)) rfl (by kernel_rfl) (by kernel_rfl) (by kernel_rfl) (fun _ _ _ h => h) (Or.inl ⟨by kernel_rfl, fun w _ => by go_simp⟩) S0 ?_
            refine wpAnyH_take (i := 10) (v := .pointer (some ⟨wr.heap.size, 4, none⟩)) rfl (by kernel_rfl) (by kernel_rfl) (by kernel_rfl) (fun _ _ _ h => h) (Or.inl ⟨by kernel_rfl, fun w _ => by go_simp⟩) S0 ?_
            refine wpAnyH_take (i := 11) (v := .int .i64 o.keep) rfl (by kernel_rfl) (by kernel_rfl) (by kernel_rfl) (fun _ _ _ h => h) (yields_one (ty := 3) (fun w => by kernel_rfl) (.tmp 97) (by kernel_rfl) (by kernel_rfl) (by kernel_rfl) (fun _ h => h.2.2.cell 4)) S0 ?_
            refine wpAnyH_ready (rs := [12]) (by kernel_rfl) (by simp) (AllReadyH.cons rfl (fun K hK => ?_) AllReadyH.nil)
            go_simp
            have k7 := (HD.out.after B6.drew).cut xn HXN.out.2 o.keep
            rw [← HXN.out.1] at k7
            ((with_reducible refine k7.mono ?_); rintro e w7 ⟨rfl, ⟨X', hC7⟩, hc⟩)
            have B7 := chg_far (HB.out.trans (B6.drew.mono HB.out.size)) hc HF3.out
            have S7 : w7.cell? ⟨d, 0, none⟩ = some (.pointer (some ⟨a3.c, 0, none⟩)) ∧ w7.cell? ⟨a3.c, 0, none⟩ = some (.pointer (some ⟨a3.p, 0, none⟩)) ∧ Blk w7 wr.heap.size 35 o.row := ⟨hC7.one.dk.cells.1, hC7.one.dk.dev.pc.cell.1, O6d.chg hc hgp.out⟩
            refine hK.out _ _ S7 (fun _ => ?_)
            clear hK K k7 hc
            refine wpAnyH_done (by kernel_rfl) ?_ _
            clear S0 S7 O6 O6d
            go_wp2_with fail
            exact ⟨⟨j + 1, by have := HLT.out; omega, by go_num, d, t, X', f, e, _, rfl, hC7.more, HF3.out, B7⟩, by have := HLT.out; simp [intOf]; omega⟩
          · have ex0 : ((x : Int) == 0) = false := by simpa using c0
            by_cases c1 : x = 1
            · subst c1
              rw [show ((1 : Nat) : Int) = 1 from rfl] at hx ex0
              clear hx8 c0
              obtain ⟨q, hq⟩ : ∃ q, q = there 24 o.b 0 := ⟨_, rfl⟩
              have HQ := Lib.hid hq
              clear hq
              cases q with
              | false =>
                go_wp2_with (first
                  | (with_reducible refine wpl_o7load (.tmp 57) rfl rfl rfl hld ?_)
                  | ((with_reducible refine wpl_seg_store sizeOp7 (.tmp 11) (.tmp 58) rfl rfl O2 0 o.row rfl (Nat.le_refl _) (Op7.one _) rfl rfl _ hs7 ?_); intro w6 O6 g6 e6; clear e6; have B6 := hb6 _ g6; have q0 : w6.cell? ⟨wr.heap.size, 0, none⟩ = some (.int .i64 o.k) := O6.cell 0; have q1 : w6.cell? ⟨wr.heap.size, 1, none⟩ = some (.int .i64 o.b) := O6.cell 1; have kt := there_any (HD.out.after B6).rd HD.out.len o.b 0; rw [← HQ.out] at kt)
                  | ((with_reducible refine kt.mono ?_); rintro e w8 ⟨rfl, rfl⟩))
                exact ⟨⟨j + 1, by have := HLT.out; omega, by go_num, d, t, X, f, _, _, rfl, (HD.out.after B6).more, HF3.out, HB.out.trans (B6.mono HB.out.size)⟩, by have := HLT.out; simp [intOf]; omega⟩
              | true =>
                have hth := of_decide_eq_true HQ.out.symm
                obtain ⟨bn, hbn⟩ : ∃ bn : Nat, o.b = bn := ⟨o.b.toNat, by omega⟩
                have hb18 : bn < 18 := by omega
                have hb18i : (bn : Int) < 18 := by omega
                have HBN := Lib.hid hbn
                have H18 := Lib.hid hb18
                have HQ2 : Hid (there 24 (bn : Int) 0 = true) := Lib.hid (by rw [← hbn]; exact HQ.out.symm)
                have hke := fun (W : World) (hW : Below wr.heap.size wr W) => (HD.out.after hW).erase (by have := HJ.out; omega) hb18
                have KE := Lib.hid hke
                obtain ⟨B, hBB⟩ : ∃ B, Bs[bn]? = some B := ⟨_, List.getElem?_eq_getElem (by rw [HD.out.len]; exact hb18)⟩
                have HBB := Lib.hid hBB
                clear hke hth hbn hb18 hBB
                go_wp2_with (first
                  | (with_reducible refine wpl_o7load (.tmp 57) rfl rfl rfl hld ?_)
                  | ((with_reducible refine wpl_seg_store sizeOp7 (.tmp 11) (.tmp 58) rfl rfl O2 0 o.row rfl (Nat.le_refl _) (Op7.one _) rfl rfl _ hs7 ?_); intro w6 O6 g6 e6; clear e6; have B6 := hb6 _ g6; have q0 : w6.cell? ⟨wr.heap.size, 0, none⟩ = some (.int .i64 o.k) := O6.cell 0; have q1 : w6.cell? ⟨wr.heap.size, 1, none⟩ = some (.int .i64 (bn : Int)) := (by rw [← HBN.out]; exact O6.cell 1); have kt := there_any (HD.out.after B6).rd HD.out.len (bn : Int) 0; rw [HQ2.out] at kt; have k6 := KE.out _ B6)
                  | ((with_reducible refine kt.mono ?_); rintro e w8 ⟨rfl, rfl⟩))
                ((with_reducible refine k6.mono ?_); rintro e w7 ⟨r, rfl, hr, hH, hc⟩)
                have O7 := O6.chg hc hgp.out
                have p1 : w7.cell? ⟨wr.heap.size, 1, none⟩ = some (.int .i64 (bn : Int)) := by rw [← HBN.out]; exact O7.cell 1
                have B7 := chg_far (HB.out.trans (B6.mono HB.out.size)) hc HF3.out
                clear k6 kt hc q0 q1 g6 O6
                rcases hr with hr | hr
                · subst hr
                  have ke := rerase_any hH.rd hH.len H18.out
                  go_wp2_with ((with_reducible refine ke.mono ?_); rintro e w8 ⟨rfl, hR8, hc8⟩)
                  have O8 := O7.chg hc8 hqg.out
                  have hl8 : (Bs.set bn RB.blank).length = 18 := by rw [List.length_set]; exact hH.len
                  have hB8 : (Bs.set bn RB.blank)[bn]? = some RB.blank := by
                    rw [List.getElem?_set, if_pos rfl, if_pos (by rw [hH.len]; exact H18.out)]
                  have B8 : Below w.heap.size w w8 := B7.trans (hc8.below (fun j e => by rw [e]; exact HG.out) B7.size)
                  have B8d : Below w.heap.size w w8.drew := B8.drew
                  have R8d : RD w8.drew m g (Bs.set bn RB.blank) := ⟨hR8.hd, ⟨hR8.rg.blk, hR8.rg.oks⟩, hR8.ne⟩
                  obtain ⟨R9, h9c, h9f, g9⟩ := R8d.tear hB8 false
                  have O8d : Blk w8.drew wr.heap.size 35 o.row := O8
                  have O9 := O8d.grown g9 (fun e => hqg.out (Option.some.inj e))
                  have S0 : w8.drew.cell? ⟨m, 0, none⟩ = some (.slice (some ⟨g, 0, none⟩) 18 18) ∧ w8.drew.cell? ⟨wr.heap.size, 1, none⟩ = some (.int .i64 (bn : Int)) := ⟨by have := R8d.sl; rw [hl8] at this; exact this, by rw [← HBN.out]; exact O8d.cell 1⟩
                  have S1 : (w8.drew.setCell ⟨g, bn * 2074 + 2073, none⟩ (.bool false)).cell? ⟨m, 0, none⟩ = some (.slice (some ⟨g, 0, none⟩) 18 18) ∧ (w8.drew.setCell ⟨g, bn * 2074 + 2073, none⟩ (.bool false)).cell? ⟨wr.heap.size, 1, none⟩ = some (.int .i64 (bn : Int)) := ⟨by have := R9.sl; rw [List.length_set, hl8] at this; exact this, by rw [← HBN.out]; exact O9.cell 1⟩
                  have C9 : Chg w7 (w8.drew.setCell ⟨g, bn * 2074 + 2073, none⟩ (.bool false)) (fun i => i = g) := (hc8.trans (Chg.of_below ((Below.refl w8.heap.size w8).drew))).trans (Chg.of_grown g9 (fun k e => Option.some.inj e))
                  have BZ : Below w.heap.size w (w8.drew.setCell ⟨g, bn * 2074 + 2073, none⟩ (.bool false)) := B8d.grown g9 B8d.size (fun k e => by rw [← Option.some.inj e]; exact HG.out)
                  have hN := hH.ok C9 R9
                  refine wp_region_held_drew (S := fun w' => w'.cell? ⟨m, 0, none⟩ = some (.slice (some ⟨g, 0, none⟩) 18 18) ∧ w'.cell? ⟨wr.heap.size, 1, none⟩ = some (.int .i64 (bn : Int))) (by kernel_rfl) S0 (fun _ => ?_)
                  refine wpAnyH_take (i := 0) (v := .pointer (some ⟨m, 0, none⟩)) rfl (by kernel_rfl) (by kernel_rfl) (by kernel_rfl) (fun _ _ _ h => h) (Or.inl ⟨by kernel_rfl, fun w _ => by go_simp⟩) S0 ?_
                  refine wpAnyH_take (i := 1) (v := .pointer (some ⟨m, 0, none⟩)) rfl (by kernel_rfl) (by kernel_rfl) (by kernel_rfl) (fun _ _ _ h => h) (Or.inl ⟨by kernel_rfl, fun w _ => by go_simp⟩) S0 ?_
                  refine wpAnyH_take (i := 2) (v := .pointer (some ⟨m, 0, none⟩)) rfl (by kernel_rfl) (by kernel_rfl) (by kernel_rfl) (fun _ _ _ h => h) (Or.inl ⟨by kernel_rfl, fun w _ => by go_simp⟩) S0 ?_
                  refine wpAnyH_take (i := 3) (v := .slice (some ⟨g, 0, none⟩) 18 18) rfl (by kernel_rfl) (by kernel_rfl) (by kernel_rfl) (fun _ _ _ h => h) (yields_one (ty := 59) (fun w => by kernel_rfl) (.tmp 125) (by kernel_rfl) (by kernel_rfl) (by kernel_rfl) (fun _ h => h.1)) S0 ?_
                  refine wpAnyH_take (i := 4) (v := .pointer (some ⟨wr.heap.size, 1, none⟩)) rfl (by kernel_rfl) (by kernel_rfl) (by kernel_rfl) (fun _ _ _ h => h) (Or.inl ⟨by kernel_rfl, fun w _ => by go_simp⟩) S0 ?_
                  refine wpAnyH_take (i := 5) (v := .int .i64 (bn : Int)) rfl (by kernel_rfl) (by kernel_rfl) (by kernel_rfl) (fun _ _ _ h => h) (yields_one (ty := 3) (fun w => by kernel_rfl) (.tmp 127) (by kernel_rfl) (by kernel_rfl) (by kernel_rfl) (fun _ h => h.2)) S0 ?_
                  refine wpAnyH_take (i := 6) (v := .int .i64 0) rfl (by kernel_rfl) (by kernel_rfl) (by kernel_rfl) (fun _ _ _ h => h) (Or.inl ⟨by kernel_rfl, fun w _ => by go_simp⟩) S0 ?_
                  refine wpAnyH_take (i := 7) (v := .bool false) rfl (by kernel_rfl) (by kernel_rfl) (by kernel_rfl) (fun _ _ _ h => h) (Or.inl ⟨by kernel_rfl, fun w _ => by go_simp⟩) S0 ?_
                  refine wpAnyH_take (i := 8) (v := .pointer (some ⟨g, bn * 2074, none⟩)) rfl (by kernel_rfl) (by kernel_rfl) (by kernel_rfl) (fun _ _ _ h => h) (Or.inl ⟨by kernel_rfl, fun w _ => by go_simp⟩) S0 ?_
                  refine wpAnyH_take (i := 9) (v := .pointer (some ⟨g, bn * 2074 + 2073, none⟩)) rfl (by kernel_rfl) (by kernel_rfl) (by kernel_rfl) (fun _ _ _ h => h) (Or.inl ⟨by kernel_rfl, fun w _ => by go_simp⟩) S0 ?_
                  refine wpAnyH_ready (rs := [10]) (by kernel_rfl) (by simp) (AllReadyH.cons rfl (fun K hK => ?_) AllReadyH.nil)
                  go_simp
                  refine hK.out _ _ S1 (fun _ => ?_)
                  clear hK K
                  refine wpAnyH_done (by kernel_rfl) ?_ _
                  obtain ⟨wz, hwz⟩ : ∃ z, z = (w8.setCell ⟨g, bn * 2074 + 2073, none⟩ (.bool false)).drew := ⟨_, rfl⟩
                  have hN : Next7 (w8.setCell ⟨g, bn * 2074 + 2073, none⟩ (.bool false)).drew d t m g a3 (1 + 5 * j + 5) 0 := hN
                  have BZ : Below w.heap.size w (w8.setCell ⟨g, bn * 2074 + 2073, none⟩ (.bool false)).drew := BZ
                  go_simp
                  rw [← hwz] at hN BZ ⊢
                  clear hwz S0 S1 C9 O9 O8d O8 R9 R8d h9c h9f g9 hR8 hc8 hB8 p1 O7 hH
                  rcases hN with ⟨hr, X', f', e', Bs', hC⟩ | ⟨hr, Y, l2, f', e', Bs', hG⟩
                  · have c0 := hC.one.dk.cells.1
                    have c1 := hC.one.dk.dev.pc.cell.1
                    have ko := hC.isOff
                    have kw := hC.whole
                    go_wp2_with (first
                      | ((with_reducible refine ko.mono ?_); rintro e w8x ⟨rfl, rfl⟩)
                      | ((with_reducible refine kw.mono ?_); rintro e w9 ⟨rfl, b9⟩; have C9 := hC.after b9; have B9 := BZ.trans (b9.mono BZ.size)))
                    exact ⟨⟨j + 1, by have := HLT.out; omega, by go_num, d, t, X', f', e', _, rfl, C9, HF3.out, B9⟩, by have := HLT.out; simp [intOf]; omega⟩
                  · exact absurd hr (by decide)
                · subst hr
                  go_wp2_with fail
                  have O8 := O7
                  have hR8 := hH.rd
                  have hl8 := hH.len
                  have hB8 := HBB.out
                  have B8 := B7
                  have hc8 : Chg w7 w7 (fun i => i = g) := Chg.of_below (Below.refl _ _)
                  have B8d : Below w.heap.size w w7.drew := B8.drew
                  have R8d : RD w7.drew m g Bs := ⟨hR8.hd, ⟨hR8.rg.blk, hR8.rg.oks⟩, hR8.ne⟩
                  obtain ⟨R9, h9c, h9f, g9⟩ := R8d.tear hB8 true
                  have O8d : Blk w7.drew wr.heap.size 35 o.row := O8
                  have O9 := O8d.grown g9 (fun e => hqg.out (Option.some.inj e))
                  have S0 : w7.drew.cell? ⟨m, 0, none⟩ = some (.slice (some ⟨g, 0, none⟩) 18 18) ∧ w7.drew.cell? ⟨wr.heap.size, 1, none⟩ = some (.int .i64 (bn : Int)) := ⟨by have := R8d.sl; rw [hl8] at this; exact this, by rw [← HBN.out]; exact O8d.cell 1⟩
                  have S1 : (w7.drew.setCell ⟨g, bn * 2074 + 2073, none⟩ (.bool true)).cell? ⟨m, 0, none⟩ = some (.slice (some ⟨g, 0, none⟩) 18 18) ∧ (w7.drew.setCell ⟨g, bn * 2074 + 2073, none⟩ (.bool true)).cell? ⟨wr.heap.size, 1, none⟩ = some (.int .i64 (bn : Int)) := ⟨by have := R9.sl; rw [List.length_set, hl8] at this; exact this, by rw [← HBN.out]; exact O9.cell 1⟩
                  have C9 : Chg w7 (w7.drew.setCell ⟨g, bn * 2074 + 2073, none⟩ (.bool true)) (fun i => i = g) := (hc8.trans (Chg.of_below ((Below.refl w7.heap.size w7).drew))).trans (Chg.of_grown g9 (fun k e => Option.some.inj e))
                  have BZ : Below w.heap.size w (w7.drew.setCell ⟨g, bn * 2074 + 2073, none⟩ (.bool true)) := B8d.grown g9 B8d.size (fun k e => by rw [← Option.some.inj e]; exact HG.out)
                  have hN := hH.torn HBB.out C9 R9
                  refine wp_region_held_drew (S := fun w' => w'.cell? ⟨m, 0, none⟩ = some (.slice (some ⟨g, 0, none⟩) 18 18) ∧ w'.cell? ⟨wr.heap.size, 1, none⟩ = some (.int .i64 (bn : Int))) (by kernel_rfl) S0 (fun _ => ?_)
                  refine wpAnyH_take (i := 0) (v := .pointer (some ⟨m, 0, none⟩)) rfl (by kernel_rfl) (by kernel_rfl) (by kernel_rfl) (fun _ _ _ h => h) (Or.inl ⟨by kernel_rfl, fun w _ => by go_simp⟩) S0 ?_
                  refine wpAnyH_take (i := 1) (v := .pointer (some ⟨m, 0, none⟩)) rfl (by kernel_rfl) (by kernel_rfl) (by kernel_rfl) (fun _ _ _ h => h) (Or.inl ⟨by kernel_rfl, fun w _ => by go_simp⟩) S0 ?_
                  refine wpAnyH_take (i := 2) (v := .pointer (some ⟨m, 0, none⟩)) rfl (by kernel_rfl) (by kernel_rfl) (by kernel_rfl) (fun _ _ _ h => h) (Or.inl ⟨by kernel_rfl, fun w _ => by go_simp⟩) S0 ?_
                  refine wpAnyH_take (i := 3) (v := .slice (some ⟨g, 0, none⟩) 18 18) rfl (by kernel_rfl) (by kernel_rfl) (by kernel_rfl) (fun _ _ _ h => h) (yields_one (ty := 59) (fun w => by kernel_rfl) (.tmp 125) (by kernel_rfl) (by kernel_rfl) (by kernel_rfl) (fun _ h => h.1)) S0 ?_
                  refine wpAnyH_take (i := 4) (v := .pointer (some ⟨wr.heap.size, 1, none⟩)) rfl (by kernel_rfl) (by kernel_rfl) (by kernel_rfl) (fun _ _ _ h => h) (Or.inl ⟨by kernel_rfl, fun w _ => by go_simp⟩) S0 ?_
                  refine wpAnyH_take (i := 5) (v := .int .i64 (bn : Int)) rfl (by kernel_rfl) (by kernel_rfl) (by kernel_rfl) (fun _ _ _ h => h) (yields_one (ty := 3) (fun w => by kernel_rfl) (.tmp 127) (by kernel_rfl) (by kernel_rfl) (by kernel_rfl) (fun _ h => h.2)) S0 ?_
                  refine wpAnyH_take (i := 6) (v := .int .i64 30) rfl (by kernel_rfl) (by kernel_rfl) (by kernel_rfl) (fun _ _ _ h => h) (Or.inl ⟨by kernel_rfl, fun w _ => by go_simp⟩) S0 ?_
                  refine wpAnyH_take (i := 7) (v := .bool true) rfl (by kernel_rfl) (by kernel_rfl) (by kernel_rfl) (fun _ _ _ h => h) (Or.inl ⟨by kernel_rfl, fun w _ => by go_simp⟩) S0 ?_
                  refine wpAnyH_take (i := 8) (v := .pointer (some ⟨g, bn * 2074, none⟩)) rfl (by kernel_rfl) (by kernel_rfl) (by kernel_rfl) (fun _ _ _ h => h) (Or.inl ⟨by kernel_rfl, fun w _ => by go_simp⟩) S0 ?_
                  refine wpAnyH_take (i := 9) (v := .pointer (some ⟨g, bn * 2074 + 2073, none⟩)) rfl (by kernel_rfl) (by kernel_rfl) (by kernel_rfl) (fun _ _ _ h => h) (Or.inl ⟨by kernel_rfl, fun w _ => by go_simp⟩) S0 ?_
                  refine wpAnyH_ready (rs := [10]) (by kernel_rfl) (by simp) (AllReadyH.cons rfl (fun K hK => ?_) AllReadyH.nil)
                  go_simp
                  refine hK.out _ _ S1 (fun _ => ?_)
                  clear hK K
                  refine wpAnyH_done (by kernel_rfl) ?_ _
                  obtain ⟨wz, hwz⟩ : ∃ z, z = (w7.setCell ⟨g, bn * 2074 + 2073, none⟩ (.bool true)).drew := ⟨_, rfl⟩
                  have hN : Next7 (w7.setCell ⟨g, bn * 2074 + 2073, none⟩ (.bool true)).drew d t m g a3 (1 + 5 * j + 5) 30 := hN
                  have BZ : Below w.heap.size w (w7.setCell ⟨g, bn * 2074 + 2073, none⟩ (.bool true)).drew := BZ
                  go_simp
                  rw [← hwz] at hN BZ ⊢
                  clear hwz S0 S1 C9 O9 O8d O8 R9 R8d h9c h9f g9 hR8 hc8 hB8 p1 O7 hH
                  rcases hN with ⟨hr, X', f', e', Bs', hC⟩ | ⟨hr, Y, l2, f', e', Bs', hG⟩
                  · exact absurd rfl hr
                  · clear hr
                    have c0 := hG.one.dk.cells.1
                    have c1 := hG.one.dk.dev.pc.cell.1
                    have ko := hG.isOff
                    have kn := hG.on
                    have HGG := Lib.hid hG
                    clear hG
                    go_wp2_with (first
                      | ((with_reducible refine ko.mono ?_); rintro e w8x ⟨rfl, rfl⟩)
                      | ((with_reducible refine kn.mono ?_); rintro e w9 ⟨rfl, hBk, hc9⟩; have c9 := hBk.c0; have B9 := chg_far BZ hc9 HF3.out; have kp := hBk.open_; clear kn ko)
                      | ((with_reducible refine kp.mono ?_); rintro e w10 ⟨d2, t2, rfl, hd2, ht2, hC10, b10⟩; have B10 := B9.trans (b10.mono B9.size); have kw := hC10.whole)
                      | ((with_reducible refine kw.mono ?_); rintro e w11 ⟨rfl, b11⟩; have C11 := hC10.after b11; have B11 := B10.trans (b11.mono B10.size)))
                    have far2 : ∀ k, a3.disk t2 d2 k → w.heap.size ≤ k := fun k hk => by
                      rcases hk with hk | rfl | rfl
                      · exact HF3.out k (.inl hk)
                      · exact Nat.le_trans B9.size ht2
                      · exact Nat.le_trans B9.size hd2
                    exact ⟨⟨j + 1, by have := HLT.out; omega, by go_num, d2, t2, _, f', e', _, rfl, C11, far2, B11⟩, by have := HLT.out; simp [intOf]; omega⟩
            · have ex1 : ((x : Int) == 1) = false := by
                have : ¬ (x : Int) = 1 := by omega
                simpa using this
              clear c0 c1 hx8
              obtain ⟨q, hq⟩ : ∃ q, q = there 24 o.b 0 := ⟨_, rfl⟩
              have HQ := Lib.hid hq
              clear hq
              cases q with
              | false =>
                have hkp := fun (W : World) (hW : Below wr.heap.size wr W) => (HD.out.after hW).program (by have := HJ.out; omega) o y HY.out j HJ.out (fun z => by rw [← HQ.out] at z; cases z)
                have KP := Lib.hid hkp
                clear hkp
                go_wp2_with (first
                  | (with_reducible refine wpl_o7load (.tmp 57) rfl rfl rfl hld ?_)
                  | ((with_reducible refine wpl_seg_store sizeOp7 (.tmp 11) (.tmp 58) rfl rfl O2 0 o.row rfl (Nat.le_refl _) (Op7.one _) rfl rfl _ hs7 ?_); intro w6 O6 g6 e6; clear e6; have B6 := hb6 _ g6; have q0 : w6.cell? ⟨wr.heap.size, 0, none⟩ = some (.int .i64 o.k) := O6.cell 0))
                have O6d : Blk w6.drew wr.heap.size 35 o.row := O6
                have S0 : w6.drew.cell? ⟨wr.heap.size, 1, none⟩ = some (.int .i64 o.b) := O6d.cell 1
                clear q0 g6
                refine wp_region_held_drew (S := fun w' => w'.cell? ⟨wr.heap.size, 1, none⟩ = some (.int .i64 o.b)) (by kernel_rfl) S0 (fun _ => ?_)
                refine wpAnyH_take (i := 0) (v := .pointer (some ⟨m, 0, none⟩)) rfl (by kernel_rfl) (by kernel_rfl) (by kernel_rfl) (fun _ _ _ h => h) (Or.inl ⟨by kernel_rfl, fun w _ => by go_simp⟩) S0 ?_
                refine wpAnyH_take (i := 1) (v := .pointer (some ⟨wr.heap.size, 1, none⟩)) rfl (by kernel_rfl) (by kernel_rfl) (by kernel_rfl) (fun _ _ _ h => h) (Or.inl ⟨by kernel_rfl, fun w _ => by go_simp⟩) S0 ?_
                refine wpAnyH_take (i := 2) (v := .int .i64 o.b) rfl (by kernel_rfl) (by kernel_rfl) (by kernel_rfl) (fun _ _ _ h => h) (yields_one (ty := 3) (fun w => by kernel_rfl) (.tmp 63) (by kernel_rfl) (by kernel_rfl) (by kernel_rfl) (fun _ h => h)) S0 ?_
                refine wpAnyH_ready (rs := [3]) (by kernel_rfl) (by simp) (AllReadyH.cons rfl (fun K hK => ?_) AllReadyH.nil)
                go_simp
                have kt := there_any (HD.out.rd.after B6.drew) HD.out.len o.b 0
                rw [← HQ.out] at kt
                ((with_reducible refine kt.mono ?_); rintro e w8 ⟨rfl, rfl⟩)
                refine hK.out _ _ S0 (fun _ => ?_)
                clear hK K kt
                refine wpAnyH_take (i := 4) (v := .bool false) rfl (by kernel_rfl) (by kernel_rfl) (by kernel_rfl) (fun _ _ _ h => h) (Or.inl ⟨by kernel_rfl, fun w _ => by go_simp⟩) S0 ?_
                refine wpAnyH_take (i := 5) (v := undef) rfl (by kernel_rfl) (by kernel_rfl) (by kernel_rfl) (fun _ _ _ h => h) (Or.inr ⟨by kernel_rfl, rfl⟩) S0 ?_
                refine wpAnyH_take (i := 6) (v := undef) rfl (by kernel_rfl) (by kernel_rfl) (by kernel_rfl) (fun _ _ _ h => h) (Or.inr ⟨by kernel_rfl, rfl⟩) S0 ?_
                refine wpAnyH_take (i := 7) (v := undef) rfl (by kernel_rfl) (by kernel_rfl) (by kernel_rfl) (fun _ _ _ h => h) (Or.inr ⟨by kernel_rfl, rfl⟩) S0 ?_
                refine wpAnyH_take (i := 8) (v := undef) rfl (by kernel_rfl) (by kernel_rfl) (by kernel_rfl) (fun _ _ _ h => h) (Or.inr ⟨by kernel_rfl, rfl⟩) S0 ?_
                refine wpAnyH_take (i := 9) (v := undef) rfl (by kernel_rfl) (by kernel_rfl) (by kernel_rfl) (fun _ _ _ h => h) (Or.inr ⟨by kernel_rfl, rfl⟩) S0 ?_
                refine wpAnyH_take (i := 10) (v := undef) rfl (by kernel_rfl) (by kernel_rfl) (by kernel_rfl) (fun _ _ _ h => h) (Or.inr ⟨by kernel_rfl, rfl⟩) S0 ?_
                refine wpAnyH_take (i := 11) (v := undef) rfl (by kernel_rfl) (by kernel_rfl) (by kernel_rfl) (fun _ _ _ h => h) (Or.inr ⟨by kernel_rfl, rfl⟩) S0 ?_
                refine wpAnyH_take (i := 12) (v := undef) rfl (by kernel_rfl) (by kernel_rfl) (by kernel_rfl) (fun _ _ _ h => h) (Or.inr ⟨by kernel_rfl, rfl⟩) S0 ?_
                refine wpAnyH_take (i := 13) (v := undef) rfl (by kernel_rfl) (by kernel_rfl) (by kernel_rfl) (fun _ _ _ h => h) (Or.inr ⟨by kernel_rfl, rfl⟩) S0 ?_
                refine wpAnyH_take (i := 14) (v := .bool false) rfl (by kernel_rfl) (by kernel_rfl) (by kernel_rfl) (fun _ _ _ h => h) (Or.inl ⟨by kernel_rfl, fun w _ => by go_simp⟩) S0 ?_
                refine wpAnyH_done (by kernel_rfl) ?_ _
                clear S0
                go_simp
                go_wp2_with (with_reducible refine wpl_seg_load aggOp7 sizeOp7 (.tmp 11) rfl rfl O6d 0 o.row rfl rfl rfl ?_)
                have k6 := KP.out _ B6.drew
                ((with_reducible refine k6.mono ?_); rintro e w7 ⟨r, rfl, hN, hc⟩)
                have BZ := (HB.out.trans (B6.drew.mono HB.out.size)).trans (hc.below HF4.out (HB.out.trans (B6.drew.mono HB.out.size)).size)
                clear k6 hc O6d O6
                rcases hN with ⟨hr, X', f', e', Bs', hC⟩ | ⟨hr, Y, l2, f', e', Bs', hG⟩
                · have c0 := hC.one.dk.cells.1
                  have c1 := hC.one.dk.dev.pc.cell.1
                  have ko := hC.isOff
                  have kw := hC.whole
                  go_wp2_with (first
                    | ((with_reducible refine ko.mono ?_); rintro e w8x ⟨rfl, rfl⟩)
                    | ((with_reducible refine kw.mono ?_); rintro e w9 ⟨rfl, b9⟩; have C9 := hC.after b9; have B9 := BZ.trans (b9.mono BZ.size)))
                  exact ⟨⟨j + 1, by have := HLT.out; omega, by go_num, d, t, X', f', e', _, rfl, C9, HF3.out, B9⟩, by have := HLT.out; simp [intOf]; omega⟩
                · subst hr
                  have c0 := hG.one.dk.cells.1
                  have c1 := hG.one.dk.dev.pc.cell.1
                  have ko := hG.isOff
                  have kn := hG.on
                  have HGG := Lib.hid hG
                  clear hG
                  go_wp2_with (first
                    | ((with_reducible refine ko.mono ?_); rintro e w8x ⟨rfl, rfl⟩)
                    | ((with_reducible refine kn.mono ?_); rintro e w9 ⟨rfl, hBk, hc9⟩; have c9 := hBk.c0; have B9 := chg_far BZ hc9 HF3.out; have kp := hBk.open_; clear kn ko)
                    | ((with_reducible refine kp.mono ?_); rintro e w10 ⟨d2, t2, rfl, hd2, ht2, hC10, b10⟩; have B10 := B9.trans (b10.mono B9.size); have kw := hC10.whole)
                    | ((with_reducible refine kw.mono ?_); rintro e w11 ⟨rfl, b11⟩; have C11 := hC10.after b11; have B11 := B10.trans (b11.mono B10.size)))
                  have far2 : ∀ k, a3.disk t2 d2 k → w.heap.size ≤ k := fun k hk => by
                    rcases hk with hk | rfl | rfl
                    · exact HF3.out k (.inl hk)
                    · exact Nat.le_trans B9.size ht2
                    · exact Nat.le_trans B9.size hd2
                  exact ⟨⟨j + 1, by have := HLT.out; omega, by go_num, d2, t2, _, f', e', _, rfl, C11, far2, B11⟩, by have := HLT.out; simp [intOf]; omega⟩
              | true =>
                have hth := of_decide_eq_true HQ.out.symm
                obtain ⟨bn, hbn⟩ : ∃ bn : Nat, o.b = bn := ⟨o.b.toNat, by omega⟩
                have hb18 : bn < 18 := by omega
                have hb18i : (bn : Int) < 18 := by omega
                have HBN := Lib.hid hbn
                have H18 := Lib.hid hb18
                have HQ2 : Hid (there 24 (bn : Int) 0 = true) := Lib.hid (by rw [← hbn]; exact HQ.out.symm)
                obtain ⟨B, hBB⟩ : ∃ B, Bs[bn]? = some B := ⟨_, List.getElem?_eq_getElem (by rw [HD.out.len]; exact hb18)⟩
                have HBB := Lib.hid hBB
                obtain ⟨tn, htn⟩ : ∃ tn, tn = B.torn := ⟨_, rfl⟩
                have HTN := Lib.hid htn
                have hkp := fun (hz : B.torn = false) (W : World) (hW : Below wr.heap.size wr W) => (HD.out.after hW).program (by have := HJ.out; omega) o y HY.out j HJ.out (fun z Z hZ => by
                  rw [HBN.out, Int.toNat_natCast, HBB.out] at hZ
                  cases hZ
                  exact hz)
                have KP0 := Lib.hid hkp
                clear hkp hth hbn hb18 hBB htn
                go_wp2_with (first
                  | (with_reducible refine wpl_o7load (.tmp 57) rfl rfl rfl hld ?_)
                  | ((with_reducible refine wpl_seg_store sizeOp7 (.tmp 11) (.tmp 58) rfl rfl O2 0 o.row rfl (Nat.le_refl _) (Op7.one _) rfl rfl _ hs7 ?_); intro w6 O6 g6 e6; clear e6; have B6 := hb6 _ g6; have q0 : w6.cell? ⟨wr.heap.size, 0, none⟩ = some (.int .i64 o.k) := O6.cell 0))
                have O6d : Blk w6.drew wr.heap.size 35 o.row := O6
                have hR6 := HD.out.rd.after B6.drew
                have S0 : w6.drew.cell? ⟨m, 0, none⟩ = some (.slice (some ⟨g, 0, none⟩) 18 18) ∧ w6.drew.cell? ⟨wr.heap.size, 1, none⟩ = some (.int .i64 (bn : Int)) ∧ w6.drew.cell? ⟨g, bn * 2074 + 2073, none⟩ = some (.bool tn) := ⟨by have := hR6.sl; rw [HD.out.len] at this; exact this, by rw [← HBN.out]; exact O6d.cell 1, by rw [HTN.out]; exact (hR6.tear HBB.out true).2.1⟩
                clear q0 g6 hR6
                cases tn with
                | true =>
                  refine wp_region_held_drew (S := fun w' => w'.cell? ⟨m, 0, none⟩ = some (.slice (some ⟨g, 0, none⟩) 18 18) ∧ w'.cell? ⟨wr.heap.size, 1, none⟩ = some (.int .i64 (bn : Int)) ∧ w'.cell? ⟨g, bn * 2074 + 2073, none⟩ = some (.bool true)) (by kernel_rfl) S0 (fun _ => ?_)
                  refine wpAnyH_take (i := 0) (v := .pointer (some ⟨m, 0, none⟩)) rfl (by kernel_rfl) (by kernel_rfl) (by kernel_rfl) (fun _ _ _ h => h) (Or.inl ⟨by kernel_rfl, fun w _ => by go_simp⟩) S0 ?_
                  refine wpAnyH_take (i := 1) (v := .pointer (some ⟨wr.heap.size, 1, none⟩)) rfl (by kernel_rfl) (by kernel_rfl) (by kernel_rfl) (fun _ _ _ h => h) (Or.inl ⟨by kernel_rfl, fun w _ => by go_simp⟩) S0 ?_
                  refine wpAnyH_take (i := 2) (v := .int .i64 (bn : Int)) rfl (by kernel_rfl) (by kernel_rfl) (by kernel_rfl) (fun _ _ _ h => h) (yields_one (ty := 3) (fun w => by kernel_rfl) (.tmp 63) (by kernel_rfl) (by kernel_rfl) (by kernel_rfl) (fun _ h => h.2.1)) S0 ?_
                  refine wpAnyH_ready (rs := [3]) (by kernel_rfl) (by simp) (AllReadyH.cons rfl (fun K hK => ?_) AllReadyH.nil)
                  go_simp
                  have kt := there_any (HD.out.rd.after B6.drew) HD.out.len (bn : Int) 0
                  rw [HQ2.out] at kt
                  ((with_reducible refine kt.mono ?_); rintro e w8 ⟨rfl, rfl⟩)
                  refine hK.out _ _ S0 (fun _ => ?_)
                  clear hK K kt
                  refine wpAnyH_take (i := 4) (v := .bool true) rfl (by kernel_rfl) (by kernel_rfl) (by kernel_rfl) (fun _ _ _ h => h) (Or.inl ⟨by kernel_rfl, fun w _ => by go_simp⟩) S0 ?_
                  refine wpAnyH_take (i := 5) (v := .pointer (some ⟨m, 0, none⟩)) rfl (by kernel_rfl) (by kernel_rfl) (by kernel_rfl) (fun _ _ _ h => h) (Or.inl ⟨by kernel_rfl, fun w _ => by go_simp⟩) S0 ?_
                  refine wpAnyH_take (i := 6) (v := .pointer (some ⟨m, 0, none⟩)) rfl (by kernel_rfl) (by kernel_rfl) (by kernel_rfl) (fun _ _ _ h => h) (Or.inl ⟨by kernel_rfl, fun w _ => by go_simp⟩) S0 ?_
                  refine wpAnyH_take (i := 7) (v := .pointer (some ⟨m, 0, none⟩)) rfl (by kernel_rfl) (by kernel_rfl) (by kernel_rfl) (fun _ _ _ h => h) (Or.inl ⟨by kernel_rfl, fun w _ => by go_simp⟩) S0 ?_
                  refine wpAnyH_take (i := 8) (v := .slice (some ⟨g, 0, none⟩) 18 18) rfl (by kernel_rfl) (by kernel_rfl) (by kernel_rfl) (fun _ _ _ h => h) (yields_one (ty := 59) (fun w => by kernel_rfl) (.tmp 69) (by kernel_rfl) (by kernel_rfl) (by kernel_rfl) (fun _ h => h.1)) S0 ?_
                  refine wpAnyH_take (i := 9) (v := .pointer (some ⟨wr.heap.size, 1, none⟩)) rfl (by kernel_rfl) (by kernel_rfl) (by kernel_rfl) (fun _ _ _ h => h) (Or.inl ⟨by kernel_rfl, fun w _ => by go_simp⟩) S0 ?_
                  refine wpAnyH_take (i := 10) (v := .int .i64 (bn : Int)) rfl (by kernel_rfl) (by kernel_rfl) (by kernel_rfl) (fun _ _ _ h => h) (yields_one (ty := 3) (fun w => by kernel_rfl) (.tmp 71) (by kernel_rfl) (by kernel_rfl) (by kernel_rfl) (fun _ h => h.2.1)) S0 ?_
                  refine wpAnyH_take (i := 11) (v := .pointer (some ⟨g, bn * 2074, none⟩)) rfl (by kernel_rfl) (by kernel_rfl) (by kernel_rfl) (fun _ _ _ h => h) (Or.inl ⟨by kernel_rfl, fun w _ => by go_simp⟩) S0 ?_
                  refine wpAnyH_take (i := 12) (v := .pointer (some ⟨g, bn * 2074 + 2073, none⟩)) rfl (by kernel_rfl) (by kernel_rfl) (by kernel_rfl) (fun _ _ _ h => h) (Or.inl ⟨by kernel_rfl, fun w _ => by go_simp⟩) S0 ?_
                  refine wpAnyH_take (i := 13) (v := .bool true) rfl (by kernel_rfl) (by kernel_rfl) (by kernel_rfl) (fun _ _ _ h => h) (yields_one (ty := 4) (fun w => by kernel_rfl) (.tmp 74) (by kernel_rfl) (by kernel_rfl) (by kernel_rfl) (fun _ h => h.2.2)) S0 ?_
                  refine wpAnyH_take (i := 14) (v := .bool true) rfl (by kernel_rfl) (by kernel_rfl) (by kernel_rfl) (fun _ _ _ h => h) (Or.inl ⟨by kernel_rfl, fun w _ => by go_simp⟩) S0 ?_
                  refine wpAnyH_done (by kernel_rfl) ?_ _
                  clear S0
                  go_simp
                  go_wp2_with fail
                  exact ⟨⟨j + 1, by have := HLT.out; omega, by go_num, d, t, X, f, _, _, rfl, (HD.out.after B6.drew).more, HF3.out, HB.out.trans (B6.drew.mono HB.out.size)⟩, by have := HLT.out; simp [intOf]; omega⟩
                | false =>
                  have KP := Lib.hid (KP0.out HTN.out.symm)
                  clear KP0
                  refine wp_region_held_drew (S := fun w' => w'.cell? ⟨m, 0, none⟩ = some (.slice (some ⟨g, 0, none⟩) 18 18) ∧ w'.cell? ⟨wr.heap.size, 1, none⟩ = some (.int .i64 (bn : Int)) ∧ w'.cell? ⟨g, bn * 2074 + 2073, none⟩ = some (.bool false)) (by kernel_rfl) S0 (fun _ => ?_)
                  refine wpAnyH_take (i := 0) (v := .pointer (some ⟨m, 0, none⟩)) rfl (by kernel_rfl) (by kernel_rfl) (by kernel_rfl) (fun _ _ _ h => h) (Or.inl ⟨by kernel_rfl, fun w _ => by go_simp⟩) S0 ?_
                  refine wpAnyH_take (i := 1) (v := .pointer (some ⟨wr.heap.size, 1, none⟩)) rfl (by kernel_rfl) (by kernel_rfl) (by kernel_rfl) (fun _ _ _ h => h) (Or.inl ⟨by kernel_rfl, fun w _ => by go_simp⟩) S0 ?_
                  refine wpAnyH_take (i := 2) (v := .int .i64 (bn : Int)) rfl (by kernel_rfl) (by kernel_rfl) (by kernel_rfl) (fun _ _ _ h => h) (yields_one (ty := 3) (fun w => by kernel_rfl) (.tmp 63) (by kernel_rfl) (by kernel_rfl) (by kernel_rfl) (fun _ h => h.2.1)) S0 ?_
                  refine wpAnyH_ready (rs := [3]) (by kernel_rfl) (by simp) (AllReadyH.cons rfl (fun K hK => ?_) AllReadyH.nil)
                  go_simp
                  have kt := there_any (HD.out.rd.after B6.drew) HD.out.len (bn : Int) 0
                  rw [HQ2.out] at kt
                  ((with_reducible refine kt.mono ?_); rintro e w8 ⟨rfl, rfl⟩)
                  refine hK.out _ _ S0 (fun _ => ?_)
                  clear hK K kt
                  refine wpAnyH_take (i := 4) (v := .bool true) rfl (by kernel_rfl) (by kernel_rfl) (by kernel_rfl) (fun _ _ _ h => h) (Or.inl ⟨by kernel_rfl, fun w _ => by go_simp⟩) S0 ?_
                  refine wpAnyH_take (i := 5) (v := .pointer (some ⟨m, 0, none⟩)) rfl (by kernel_rfl) (by kernel_rfl) (by kernel_rfl) (fun _ _ _ h => h) (Or.inl ⟨by kernel_rfl, fun w _ => by go_simp⟩) S0 ?_
                  refine wpAnyH_take (i := 6) (v := .pointer (some ⟨m, 0, none⟩)) rfl (by kernel_rfl) (by kernel_rfl) (by kernel_rfl) (fun _ _ _ h => h) (Or.inl ⟨by kernel_rfl, fun w _ => by go_simp⟩) S0 ?_
                  refine wpAnyH_take (i := 7) (v := .pointer (some ⟨m, 0, none⟩)) rfl (by kernel_rfl) (by kernel_rfl) (by kernel_rfl) (fun _ _ _ h => h) (Or.inl ⟨by kernel_rfl, fun w _ => by go_simp⟩) S0 ?_
                  refine wpAnyH_take (i := 8) (v := .slice (some ⟨g, 0, none⟩) 18 18) rfl (by kernel_rfl) (by kernel_rfl) (by kernel_rfl) (fun _ _ _ h => h) (yields_one (ty := 59) (fun w => by kernel_rfl) (.tmp 69) (by kernel_rfl) (by kernel_rfl) (by kernel_rfl) (fun _ h => h.1)) S0 ?_
                  refine wpAnyH_take (i := 9) (v := .pointer (some ⟨wr.heap.size, 1, none⟩)) rfl (by kernel_rfl) (by kernel_rfl) (by kernel_rfl) (fun _ _ _ h => h) (Or.inl ⟨by kernel_rfl, fun w _ => by go_simp⟩) S0 ?_
                  refine wpAnyH_take (i := 10) (v := .int .i64 (bn : Int)) rfl (by kernel_rfl) (by kernel_rfl) (by kernel_rfl) (fun _ _ _ h => h) (yields_one (ty := 3) (fun w => by kernel_rfl) (.tmp 71) (by kernel_rfl) (by kernel_rfl) (by kernel_rfl) (fun _ h => h.2.1)) S0 ?_
                  refine wpAnyH_take (i := 11) (v := .pointer (some ⟨g, bn * 2074, none⟩)) rfl (by kernel_rfl) (by kernel_rfl) (by kernel_rfl) (fun _ _ _ h => h) (Or.inl ⟨by kernel_rfl, fun w _ => by go_simp⟩) S0 ?_
                  refine wpAnyH_take (i := 12) (v := .pointer (some ⟨g, bn * 2074 + 2073, none⟩)) rfl (by kernel_rfl) (by kernel_rfl) (by kernel_rfl) (fun _ _ _ h => h) (Or.inl ⟨by kernel_rfl, fun w _ => by go_simp⟩) S0 ?_
                  refine wpAnyH_take (i := 13) (v := .bool false) rfl (by kernel_rfl) (by kernel_rfl) (by kernel_rfl) (fun _ _ _ h => h) (yields_one (ty := 4) (fun w => by kernel_rfl) (.tmp 74) (by kernel_rfl) (by kernel_rfl) (by kernel_rfl) (fun _ h => h.2.2)) S0 ?_
                  refine wpAnyH_take (i := 14) (v := .bool false) rfl (by kernel_rfl) (by kernel_rfl) (by kernel_rfl) (fun _ _ _ h => h) (Or.inl ⟨by kernel_rfl, fun w _ => by go_simp⟩) S0 ?_
                  refine wpAnyH_done (by kernel_rfl) ?_ _
                  clear S0
                  go_simp
                  go_wp2_with (with_reducible refine wpl_seg_load aggOp7 sizeOp7 (.tmp 11) rfl rfl O6d 0 o.row rfl rfl rfl ?_)
                  have k6 := KP.out _ B6.drew
                  ((with_reducible refine k6.mono ?_); rintro e w7 ⟨r, rfl, hN, hc⟩)
                  have BZ := (HB.out.trans (B6.drew.mono HB.out.size)).trans (hc.below HF4.out (HB.out.trans (B6.drew.mono HB.out.size)).size)
                  clear k6 hc O6d O6
                  rcases hN with ⟨hr, X', f', e', Bs', hC⟩ | ⟨hr, Y, l2, f', e', Bs', hG⟩
                  · have c0 := hC.one.dk.cells.1
                    have c1 := hC.one.dk.dev.pc.cell.1
                    have ko := hC.isOff
                    have kw := hC.whole
                    go_wp2_with (first
                      | ((with_reducible refine ko.mono ?_); rintro e w8x ⟨rfl, rfl⟩)
                      | ((with_reducible refine kw.mono ?_); rintro e w9 ⟨rfl, b9⟩; have C9 := hC.after b9; have B9 := BZ.trans (b9.mono BZ.size)))
                    exact ⟨⟨j + 1, by have := HLT.out; omega, by go_num, d, t, X', f', e', _, rfl, C9, HF3.out, B9⟩, by have := HLT.out; simp [intOf]; omega⟩
                  · subst hr
                    have c0 := hG.one.dk.cells.1
                    have c1 := hG.one.dk.dev.pc.cell.1
                    have ko := hG.isOff
                    have kn := hG.on
                    have HGG := Lib.hid hG
                    clear hG
                    go_wp2_with (first
                      | ((with_reducible refine ko.mono ?_); rintro e w8x ⟨rfl, rfl⟩)
                      | ((with_reducible refine kn.mono ?_); rintro e w9 ⟨rfl, hBk, hc9⟩; have c9 := hBk.c0; have B9 := chg_far BZ hc9 HF3.out; have kp := hBk.open_; clear kn ko)
                      | ((with_reducible refine kp.mono ?_); rintro e w10 ⟨d2, t2, rfl, hd2, ht2, hC10, b10⟩; have B10 := B9.trans (b10.mono B9.size); have kw := hC10.whole)
                      | ((with_reducible refine kw.mono ?_); rintro e w11 ⟨rfl, b11⟩; have C11 := hC10.after b11; have B11 := B10.trans (b11.mono B10.size)))
                    have far2 : ∀ k, a3.disk t2 d2 k → w.heap.size ≤ k := fun k hk => by
                      rcases hk with hk | rfl | rfl
                      · exact HF3.out k (.inl hk)
                      · exact Nat.le_trans B9.size ht2
                      · exact Nat.le_trans B9.size hd2
                    exact ⟨⟨j + 1, by have := HLT.out; omega, by go_num, d2, t2, _, f', e', _, rfl, C11, far2, B11⟩, by have := HLT.out; simp [intOf]; omega⟩
        · obtain rfl : j = os.length := by omega
          have dlt : decide ((os.length : Int) < (os.length : Int)) = false := by simp
          have HB := Lib.hid hB
          clear hD hB hlt hj HS
          go_wp2_with fail
          go_ret
          exact ⟨rfl, HB.out⟩
set_option maxRecDepth 100000 in
set_option maxHeartbeats 4000000 in
theorem diskCuts_any (v v2 : Value) (w : World) (ht : Tab w) (hs : ∃ os, Script7 w w.heap.size v os) (hv : ∃ zs, Nums w w.heap.size .i64 v2 zs) :
    Calls Tryz.prog 4 #[v, v2] w fun e w' => e = .returned (.bool true) ∧ Below w.heap.size w w' := by
  obtain ⟨zs, hv⟩ := hv
  obtain ⟨os, hs⟩ := hs
  obtain ⟨A2, cap2, rfl, _⟩ := id hv
  obtain ⟨A, cap, rfl, _⟩ := id hs
  have ks := dspeaks_any w ht
  by_cases h60 : os.length ≤ 60
  · by_cases h3 : zs.length ≤ 2
    · exact cuts7_main A cap os A2 cap2 zs w ht hs hv h60 h3
    · have d1 : decide ((60 : Int) < (os.length : Int)) = false := by simp; omega
      have d2 : decide ((2 : Int) < (zs.length : Int)) = true := by simp; omega
      clear hv hs ht h60 h3
      go_enter Tryz.func4, Tryz.ntmps4
      go_wp2_with ((with_reducible refine ks.mono ?_); rintro e w1 ⟨rfl, b1⟩)
      go_ret
      exact ⟨rfl, b1⟩
  · have d1 : decide ((60 : Int) < (os.length : Int)) = true := by simp; omega
    clear hv hs ht h60
    go_enter Tryz.func4, Tryz.ntmps4
    go_wp2_with ((with_reducible refine ks.mono ?_); rintro e w1 ⟨rfl, b1⟩)
    go_ret
    exact ⟨rfl, b1⟩
end Go.Proofs.YtaafelhjcmgkdaaGreatDoor


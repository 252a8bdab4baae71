/- What inode's With gives: the document's entries one by one, or why not. No condition but that the entries are there, and few. -/
import Derived.Test.YtkpojlnfagonbaaQInoInsert
import Derived.Test.YtkpojlnfagonbaaQInoIns
import Derived.Test.YtkpojlnfagonbaaQInoCheck
namespace Go.Proofs.Ytkpojlnfagonbaa
open Go Go.RowKit
/-- entries one by one: the directory's, and the error's number -/
def withL : List EN → List EN → List EN × Int
  | es, [] => (es, 0)
  | es, x :: xs => if okE x = false then ([], 1) else if (findL es x.n).2 = true then ([], 62) else if es.length = 8 then ([], 67) else withL (insP false es x) xs
/-- .. an inode's -/
def withI (n : IN) (more : List EN) : IN × Int := if n.dir then (if (withL n.es more).2 = 0 then (⟨2, 0, (withL n.es more).1⟩, 0) else (⟨0, 0, []⟩, (withL n.es more).2)) else (⟨0, 0, []⟩, 63)
theorem withL_next {es more : List EN} {q : Nat} (h : q < more.length) : withL es (more.drop q) = if okE (atE more q) = false then ([], 1) else if (findL es (atE more q).n).2 = true then ([], 62) else if es.length = 8 then ([], 67) else withL (insP false es (atE more q)) (more.drop (q + 1)) := by
  have hd : more.drop q = atE more q :: more.drop (q + 1) := by
    have h1 := atE_get h
    obtain ⟨hl, he⟩ := List.getElem?_eq_some_iff.1 h1
    rw [List.drop_eq_getElem_cons hl, he]
  rw [hd]
  rfl
/-- what With answers -/
def WithP (r : IN × Int) (B : Nat) (e : Ending) (w' : World) : Prop := ∃ A c, e = .returned (.tuple #[.agg #[.int .i64 r.1.k, .int .i64 r.1.z, .slice A r.1.es.length c], .int .i64 r.2]) ∧ OwnE w' B (.slice A r.1.es.length c) r.1.es
theorem WithP.no (k : Int) (B : Nat) (w' : World) {e : Ending} (h : e = .returned (.tuple #[.agg #[.int .i64 0, .int .i64 0, .slice none 0 0], .int .i64 k])) : WithP (⟨0, 0, []⟩, k) B e w' := ⟨none, 0, h, OwnE.nil _ _⟩
theorem zI_one : ∀ v ∈ [Value.int .i64 0, .int .i64 0, .slice none 0 0], v.oneCell' = true := by
  intro v h
  simp only [List.mem_cons, List.not_mem_nil, or_false] at h
  rcases h with rfl | rfl | rfl <;> rfl
set_option maxRecDepth 100000 in
set_option maxHeartbeats 8000000 in
theorem with_no (n : IN) (v vm : Value) (w : World) (hv : Ents w w.heap.size v n.es) (h : ¬ n.dir) :
    Calls Try.prog 11 #[.agg #[.int .i64 n.k, .int .i64 n.z, v], vm] w fun e w' => e = .returned (.tuple #[.agg #[.int .i64 0, .int .i64 0, .slice none 0 0], .int .i64 63]) ∧ Below w.heap.size w w' := by
  obtain ⟨A, c, rfl, hc, hm⟩ := hv.shape
  have b1 := (Below.refl w.heap.size w).alloc (Nat.le_refl _) (.cells #[.int .i64 n.k, .int .i64 n.z, .slice A n.es.length c] 24)
  have b2 := b1.alloc b1.size (.cells #[.int .i64 0, .int .i64 0, .slice none 0 0] 24)
  have HB := Lib.hid b2
  have KD := Lib.hid (rightDir_any n _ _ (hv.after b2))
  have B1 := Lib.hid ((Blk.new w 24 [.int .i64 n.k, .int .i64 n.z, .slice A n.es.length c]).alloc (.cells #[.int .i64 0, .int .i64 0, .slice none 0 0] 24))
  have R0 := Blk.new (w.alloc (.cells #[.int .i64 n.k, .int .i64 n.z, .slice A n.es.length c] 24)) 24 [.int .i64 0, .int .i64 0, .slice none 0 0]
  rw [World.size_alloc] at R0
  have RR := Lib.hid (fun w' => R0.after (w' := w'))
  have ZO := Lib.hid zI_one
  have hd : decide n.dir = false := by simpa using h
  rw [hd] at KD
  clear b1 b2 hv h hd R0
  go_enter Try.func11, Try.ntmps11
  go_wp2_with (first | (with_reducible refine wpl_seg_load aggI sizeI (.tmp 2) rfl rfl B1.out 0 [.int .i64 n.k, .int .i64 n.z, .slice A n.es.length c] rfl rfl rfl ?_) | ((with_reducible refine KD.out.mono ?_); rintro e w1 ⟨rfl, hb1⟩; have R1 := Lib.hid (RR.out _ hb1)) | ((with_reducible refine wpl_seg_store sizeI (.tmp 4) (.tmp 14) rfl rfl R1.out 0 [.int .i64 0, .int .i64 0, .slice none 0 0] rfl (Nat.le_refl _) ZO.out rfl rfl _ rfl ?_); intro w3 B3 g3 e3))
  refine bodyPost_ret (sret2 aggI sizeI rfl _ B3 (i := 0) (vs := [.int .i64 0, .int .i64 0, .slice none 0 0]) rfl rfl rfl) rfl ?_
  exact ⟨rfl, (HB.out.trans (hb1.mono HB.out.size)).grown g3 (Nat.le_trans HB.out.size hb1.size) (fun k e => by cases e; omega)⟩
set_option maxRecDepth 100000 in
set_option maxHeartbeats 16000000 in
theorem with_yes (n : IN) (v vm : Value) (more : List EN) (w : World) (hv : Ents w w.heap.size v n.es) (hm : Ents w w.heap.size vm more) (h : n.dir) (hmore : more.length ≤ 1000) :
    Calls Try.prog 11 #[.agg #[.int .i64 n.k, .int .i64 n.z, v], vm] w fun e w' => WithP (withI n more) w.heap.size e w' ∧ Below w.heap.size w w' := by
  have hw0 : withI n more = if (withL n.es more).2 = 0 then (⟨2, 0, (withL n.es more).1⟩, 0) else (⟨0, 0, []⟩, (withL n.es more).2) := by unfold withI; rw [if_pos h]
  rw [hw0]
  obtain ⟨RL, hRL⟩ : ∃ RL, RL = withL n.es more := ⟨_, rfl⟩
  rw [← hRL]
  have HRL0 := Lib.hid hRL
  obtain ⟨RI, hRI⟩ : ∃ RI : IN × Int, RI = if RL.2 = 0 then (⟨2, 0, RL.1⟩, 0) else (⟨0, 0, []⟩, RL.2) := ⟨_, rfl⟩
  rw [← hRI]
  have HRI := Lib.hid hRI
  clear hRL hw0 hRI
  have hlen := h.2.2.1
  have hgood := h.2.2.2
  obtain ⟨A, c, rfl, hc, hmx⟩ := hv.shape
  obtain ⟨A9, c9, rfl, hc9, hmx9⟩ := hm.shape
  have b1 := (Below.refl w.heap.size w).alloc (Nat.le_refl _) (.cells #[.int .i64 n.k, .int .i64 n.z, .slice A n.es.length c] 24)
  have b2 := b1.alloc b1.size (.cells #[.int .i64 0, .int .i64 0, .slice none 0 0] 24)
  have HB := Lib.hid b2
  have KD := Lib.hid (rightDir_any n _ _ (hv.after b2))
  have B1 := Lib.hid ((Blk.new w 24 [.int .i64 n.k, .int .i64 n.z, .slice A n.es.length c]).alloc (.cells #[.int .i64 0, .int .i64 0, .slice none 0 0] 24))
  have R0 := Blk.new (w.alloc (.cells #[.int .i64 n.k, .int .i64 n.z, .slice A n.es.length c] 24)) 24 [.int .i64 0, .int .i64 0, .slice none 0 0]
  rw [World.size_alloc] at R0
  have R1 := Lib.hid R0
  have ZO := Lib.hid zI_one
  have hd : decide n.dir = true := by simpa using h
  rw [hd] at KD
  have V2 := Lib.hid (hv.after b2)
  have M2 := Lib.hid hm
  have HL := Lib.hid hlen
  have HG := Lib.hid hgood
  obtain ⟨m, hmm⟩ : ∃ m, more.length = m := ⟨_, rfl⟩
  have HM := Lib.hid hmm
  obtain ⟨N, hN⟩ : ∃ N, n.es.length = N := ⟨_, rfl⟩
  have HN := Lib.hid hN
  rw [hmm] at hc9 hmore M2 ⊢
  rw [hN] at hc HB KD B1 R1 V2 ⊢
  clear b1 b2 hv hm h hd R0 hlen hgood hmm hN
  go_enter Try.func11, Try.ntmps11
  go_wp2_with (first | (with_reducible refine wpl_seg_load aggI sizeI (.tmp 2) rfl rfl B1.out 0 [.int .i64 n.k, .int .i64 n.z, .slice A N c] rfl rfl rfl ?_))
  obtain ⟨W, hW⟩ : ∃ W, W = (w.alloc (.cells #[.int .i64 n.k, .int .i64 n.z, .slice A N c] 24)).alloc (.cells #[.int .i64 0, .int .i64 0, .slice none 0 0] 24) := ⟨_, rfl⟩
  rw [← hW] at HB KD B1 R1 V2 ⊢
  have SZ : Hid (W.heap.size = w.heap.size + 2) := Lib.hid (by rw [hW]; simp)
  obtain ⟨g0, hg0⟩ : ∃ g0, g0 = w.heap.size := ⟨_, rfl⟩
  rw [← hg0] at B1 R1 SZ ⊢
  have HG0 := Lib.hid hg0
  clear hW hg0
  refine KD.out.mono ?_
  rintro e w1 ⟨rfl, hb1⟩
  have B3 := Lib.hid (B1.out.after hb1)
  have R3 := Lib.hid (R1.out.after hb1)
  have V3 := Lib.hid (V2.out.after hb1)
  have HB3 := Lib.hid (HB.out.trans (hb1.mono HB.out.size))
  have SZ3 : Hid (g0 + 2 ≤ w1.heap.size) := Lib.hid (by have := hb1.size; have := SZ.out; omega)
  have c3 : w1.cell? ⟨g0, 2, none⟩ = some (.slice A N c) := B3.out.cell 2
  have KCL := Lib.hid (clone_any _ n.es w1 V3.out (by have := HL.out; omega))
  rw [HN.out] at KCL
  clear hb1 KD B1 R1 V2 HB
  go_wp2_with ((with_reducible refine KCL.out.mono ?_); rintro e w4 ⟨A4, c4, rfl, O4, hb4⟩)
  have R4 := Lib.hid (R3.out.after hb4)
  have HB4 := Lib.hid (HB3.out.trans (hb4.mono HB3.out.size))
  have SZ4 : Hid (g0 + 2 ≤ w4.heap.size) := Lib.hid (by have := hb4.size; have := SZ3.out; omega)
  have HO4 := Lib.hid (O4.lower SZ3.out)
  clear hb4 O4 KCL V3 HB3 R3 B3 c3
  have HRL : Hid (RL = withL n.es (more.drop 0)) := Lib.hid HRL0.out
  have HN8 : Hid (N ≤ 8) := Lib.hid (by have := HL.out; have := HN.out; omega)
  clear HRL0 HL
  go_loopw [6, 20] (fun vv i wx => ∃ q N2 A2 c2 L, q ≤ m ∧ i = .int .i64 (q : Nat) ∧ vv = .slice A2 N2 c2 ∧ Hid (L.length = N2) ∧ N2 ≤ 8 ∧ Hid (OwnE wx (g0 + 2) (.slice A2 N2 c2) L) ∧ Hid (GoodTo L L.length) ∧ Hid (RL = withL L (more.drop q)) ∧ Hid (Blk wx (g0 + 1) 24 [.int .i64 0, .int .i64 0, .slice none 0 0]) ∧ Hid (Below w.heap.size w wx)) (fun _ i _ => m - (intOf i).toNat)
  case atStart => exact ⟨0, N, A4, c4, n.es, by omega, rfl, rfl, HN, HN8.out, HO4, HG, HRL, R4, HB4⟩
  case round =>
    clear HO4 HG HRL R4 HN8 HB4
    obtain ⟨q, N2, A2, c2, L, hq, rfl, rfl, hLN, hN8, hO, hG, hRL, hR, hW⟩ := hrel
    have LO : Hid (∀ k, (Value.slice A2 N2 c2).ownBlock = some k → g0 + 2 ≤ k ∧ k < wr.heap.size) := Lib.hid (fun k e => World.ownsRow.lt hO.out k e)
    by_cases hlt : q < m
    · obtain ⟨a, rfl, hab, hck⟩ := (M2.out.below hW.out).elem (atE_get (by rw [HM.out]; exact hlt : q < more.length))
      have hnx := withL_next (es := L) (more := more) (by rw [HM.out]; exact hlt : q < more.length)
      obtain ⟨x, hx⟩ : ∃ x, x = atE more q := ⟨_, rfl⟩
      rw [← hx] at hck hnx
      have HCK := Lib.hid (show ∀ j u, ([.string x.n, .int .i64 x.i] : List Value)[j]? = some u → wr.cell? ((a.add (q * 2)).add j) = some u from hck)
      have HNX := Lib.hid (hRL.out.trans hnx)
      have W5 := Lib.hid ((Below.refl wr.heap.size wr).alloc (Nat.le_refl _) (.cells #[.string x.n, .int .i64 x.i] 32))
      have X5 := Lib.hid (Blk.new wr 32 [.string x.n, .int .i64 x.i])
      have KRE := Lib.hid (rightEntry_any x (wr.alloc (.cells #[.string x.n, .int .i64 x.i] 32)))
      clear hck hnx hx hRL
      cases hok : okE x with
      | false =>
        rw [hok] at KRE HNX
        have hz : Hid (RI = (⟨0, 0, []⟩, 1)) := Lib.hid (by rw [HRI.out, HNX.out.trans (if_pos rfl)]; rfl)
        have R5 := Lib.hid (fun w' => (hR.out.after W5.out).after (w' := w'))
        clear hok HNX
        go_wp2_with (first | (with_reducible refine wpl_cells (q := a.add (q * 2)) (row := [.string x.n, .int .i64 x.i]) aggE sizeE (.tmp 22) rfl rfl rfl rfl HCK.out ?_) | ((with_reducible refine KRE.out.mono ?_); rintro e w6 ⟨rfl, hb6⟩; have R6 := Lib.hid (R5.out _ hb6)) | ((with_reducible refine wpl_seg_store sizeI (.tmp 4) (.tmp 27) rfl rfl R6.out 0 [.int .i64 0, .int .i64 0, .slice none 0 0] rfl (Nat.le_refl _) ZO.out rfl rfl _ rfl ?_); intro w7 B7 g7 e7))
        refine bodyPost_ret (sret2 aggI sizeI rfl _ B7 (i := 0) (vs := [.int .i64 0, .int .i64 0, .slice none 0 0]) rfl rfl rfl) rfl ?_
        rw [hz.out]
        refine ⟨WithP.no 1 _ _ rfl, ?_⟩
        have b6 := hW.out.trans ((W5.out.trans (hb6.mono W5.out.size)).mono hW.out.size)
        exact b6.grown g7 b6.size (fun k e => by cases e; have := HG0.out; omega)
      | true =>
        rw [hok] at KRE HNX
        have HOK := Lib.hid hok
        have hx2 := HNX.out.trans (if_neg (by simp))
        have HX2 := Lib.hid hx2
        have KS := Lib.hid (fun w6 (hb6 : Below (wr.alloc (.cells #[.string x.n, .int .i64 x.i] 32)).heap.size (wr.alloc (.cells #[.string x.n, .int .i64 x.i] 32)) w6) => search_any _ L x w6 ((hO.out.kept W5.out).kept hb6).ents hG.out (by rw [hLN.out]; omega))
        have R5 := Lib.hid (fun w' => (hR.out.after W5.out).after (w' := w'))
        have X6 := Lib.hid (fun w' => X5.out.after (w' := w'))
        clear hok HNX hx2
        go_wp2_with (first | (with_reducible refine wpl_cells (q := a.add (q * 2)) (row := [.string x.n, .int .i64 x.i]) aggE sizeE (.tmp 22) rfl rfl rfl rfl HCK.out ?_) | ((with_reducible refine KRE.out.mono ?_); rintro e w6 ⟨rfl, hb6⟩; have R6 := Lib.hid (R5.out _ hb6); have B6 := X6.out _ hb6; have c60 : w6.cell? ⟨wr.heap.size, 0, none⟩ = some (.string x.n) := B6.cell 0; have c61 : w6.cell? ⟨wr.heap.size, 1, none⟩ = some (.int .i64 x.i) := B6.cell 1; have KS6 := Lib.hid (KS.out _ hb6); have BB6 := Lib.hid B6; clear B6))
        have T6 := Lib.hid (W5.out.trans (hb6.mono W5.out.size))
        have O6 := Lib.hid ((hO.out.kept W5.out).kept hb6)
        clear hb6 KS KRE R5 X6 X5
        refine KS6.out.mono ?_
        rintro e w8 ⟨i, hp, rfl, hb8⟩
        have T8 := Lib.hid (T6.out.trans (hb8.mono T6.out.size))
        have O8 := Lib.hid (O6.out.kept hb8)
        have R8 := Lib.hid (R6.out.after hb8)
        have B8 := Lib.hid (BB6.out.after hb8)
        have hfs := find_search hG.out hp
        obtain ⟨b, hb⟩ : ∃ b, b = (decide (i < L.length) && decide ((atE L i).n = x.n)) := ⟨_, rfl⟩
        have HBB := Lib.hid hb
        rw [← hb] at hfs ⊢
        have HX8 := HX2.out
        rw [hfs] at HX8
        have HX9 := Lib.hid HX8
        have HP := Lib.hid hp
        clear hfs HX8 HX2 hb hp KS6 hb8 R6 c60 c61 BB6 O6
        cases b with
        | true =>
          have hz : Hid (RI = (⟨0, 0, []⟩, 62)) := Lib.hid (by rw [HRI.out, HX9.out.trans (if_pos rfl)]; rfl)
          go_wp2_with ((with_reducible refine wpl_seg_store sizeI (.tmp 4) (.tmp 35) rfl rfl R8.out 0 [.int .i64 0, .int .i64 0, .slice none 0 0] rfl (Nat.le_refl _) ZO.out rfl rfl _ rfl ?_); intro w7 B7 g7 e7)
          refine bodyPost_ret (sret2 aggI sizeI rfl _ B7 (i := 0) (vs := [.int .i64 0, .int .i64 0, .slice none 0 0]) rfl rfl rfl) rfl ?_
          rw [hz.out]
          refine ⟨WithP.no 62 _ _ rfl, ?_⟩
          have b6 := hW.out.trans (T8.out.mono hW.out.size)
          exact b6.grown g7 b6.size (fun k e => by cases e; have := HG0.out; omega)
        | false =>
          have HX10 := Lib.hid (HX9.out.trans (if_neg (by simp)))
          by_cases h8 : N2 = 8
          · have hz : Hid (RI = (⟨0, 0, []⟩, 67)) := Lib.hid (by rw [HRI.out, HX10.out.trans (if_pos (by rw [hLN.out]; exact h8))]; rfl)
            subst h8
            go_wp2_with ((with_reducible refine wpl_seg_store sizeI (.tmp 4) (.tmp 39) rfl rfl R8.out 0 [.int .i64 0, .int .i64 0, .slice none 0 0] rfl (Nat.le_refl _) ZO.out rfl rfl _ rfl ?_); intro w7 B7 g7 e7)
            refine bodyPost_ret (sret2 aggI sizeI rfl _ B7 (i := 0) (vs := [.int .i64 0, .int .i64 0, .slice none 0 0]) rfl rfl rfl) rfl ?_
            rw [hz.out]
            refine ⟨WithP.no 67 _ _ rfl, ?_⟩
            have b6 := hW.out.trans (T8.out.mono hW.out.size)
            exact b6.grown g7 b6.size (fun k e => by cases e; have := HG0.out; omega)
          · have hz := HX10.out.trans (if_neg (by rw [hLN.out]; exact h8))
            have hnn : ¬ (i < L.length ∧ (atE L i).n = x.n) := by
              have := HBB.out
              rintro ⟨h1, h2⟩
              rw [decide_eq_true h1, decide_eq_true h2] at this
              cases this
            rw [ins_search HP.out hnn] at hz
            have HZ := Lib.hid hz
            have HGI := Lib.hid (good_ins hG.out HOK.out HP.out hnn)
            have hiN : i ≤ N2 := by have := HP.out.1; have := hLN.out; omega
            have c80 : w8.cell? ⟨wr.heap.size, 0, none⟩ = some (.string x.n) := B8.out.cell 0
            have c81 : w8.cell? ⟨wr.heap.size, 1, none⟩ = some (.int .i64 x.i) := B8.out.cell 1
            have W9 := Lib.hid ((Below.refl w8.heap.size w8).alloc (Nat.le_refl _) (.cells #[.string x.n, .int .i64 x.i] 32))
            have KIN := Lib.hid (insert_any (g0 + 2) w8.heap.size i A2 N2 c2 L x (w8.alloc (.cells #[.string x.n, .int .i64 x.i] 32)) (by have := (LO.out); have := hR.out.lt; have := T8.out.size; simp; omega) (O8.out.kept W9.out) hLN.out hiN (by omega) (Blk.new w8 _ [.string x.n, .int .i64 x.i]) (fun e => by have := (World.ownsRow.lt O8.out _ e.symm).2; omega))
            have R9 := Lib.hid (R8.out.after W9.out)
            clear hz hnn
            have hne8 : ¬ ((N2 : Int) = 8) := by omega
            go_wp2_with ((with_reducible refine KIN.out.mono ?_); rintro e w9 ⟨A3, c3, rfl, O9, g9⟩)
            have hl3 : (L.take i ++ x :: L.drop i).length = N2 + 1 := by have := hLN.out; rw [List.length_append, List.length_take, List.length_cons, List.length_drop]; omega
            have hLO : ∀ k, (Value.slice A2 N2 c2).ownBlock = some k → g0 + 2 ≤ k := fun k e => (World.ownsRow.lt hO.out k e).1
            have hLO4 : ∀ k, (Value.slice A2 N2 c2).ownBlock = some k → w.heap.size ≤ k := fun k e => by have := hLO k e; have := HG0.out; omega
            exact ⟨⟨q + 1, N2 + 1, A3, c3, L.take i ++ x :: L.drop i, by omega, by go_num, rfl, Lib.hid hl3, by omega, Lib.hid O9, Lib.hid (by rw [hl3]; have := HGI.out; rw [hLN.out] at this; exact this), HZ, Lib.hid (R9.out.grown g9 (fun e => by have := hLO _ e.symm; omega)), Lib.hid ((hW.out.trans ((T8.out.trans (W9.out.mono T8.out.size)).mono hW.out.size)).grown g9 (by have := hW.out.size; have := T8.out.size; simp; omega) hLO4)⟩, by simp [intOf]; omega⟩
    · obtain rfl : q = m := by omega
      have hz : Hid (RI = (⟨2, 0, L⟩, 0)) := Lib.hid (by rw [HRI.out, hRL.out, List.drop_eq_nil_of_le (by rw [HM.out]; exact Nat.le_refl _)]; rfl)
      clear hRL
      go_wp2_with ((with_reducible refine wpl_seg_store sizeI (.tmp 4) (.tmp 47) rfl rfl hR.out 0 [.int .i64 2, .int .i64 0, .slice A2 N2 c2] rfl (Nat.le_refl _) (by simp [Value.oneCell']) rfl rfl _ rfl ?_); intro w7 B7 g7 e7)
      refine bodyPost_ret (sret2 aggI sizeI rfl _ B7 (i := 0) (vs := [.int .i64 2, .int .i64 0, .slice A2 N2 c2]) rfl rfl rfl) rfl ?_
      rw [hz.out]
      have hl : L.length = N2 := hLN.out
      refine ⟨⟨A2, c2, by rw [hl]; rfl, ?_⟩, hW.out.grown g7 hW.out.size (fun k e => by cases e; have := HG0.out; omega)⟩
      rw [hl]
      have O7 : OwnE w7 (g0 + 2) (.slice A2 N2 c2) L := World.ownsRow.kept hO.out g7 (.inr fun e => by have := (LO.out _ e).1; omega)
      exact O7.lower (by have := HG0.out; omega)
theorem with_any (n : IN) (v vm : Value) (more : List EN) (w : World) (hv : Ents w w.heap.size v n.es) (hm : Ents w w.heap.size vm more) (hmore : more.length ≤ 1000) :
    Calls Try.prog 11 #[.agg #[.int .i64 n.k, .int .i64 n.z, v], vm] w fun e w' => WithP (withI n more) w.heap.size e w' ∧ Below w.heap.size w w' := by
  by_cases h : n.dir
  · exact with_yes n v vm more w hv hm h hmore
  · refine (with_no n v vm w hv h).mono ?_
    rintro e w' ⟨he, hb⟩
    refine ⟨?_, hb⟩
    unfold withI
    rw [if_neg h]
    exact WithP.no 63 _ _ he
end Go.Proofs.Ytkpojlnfagonbaa


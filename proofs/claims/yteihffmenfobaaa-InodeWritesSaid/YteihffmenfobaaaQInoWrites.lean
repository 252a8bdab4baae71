/- The walk of InodeWrites: it answers true, and changes nothing that was there. No condition but that the entries are there. -/
import Derived.Test.YteihffmenfobaaaQInoSpeaks
import Derived.Test.YteihffmenfobaaaQInoGreat
import Derived.Test.YteihffmenfobaaaQInoSame
import Derived.Test.YteihffmenfobaaaQInoRefW
import Derived.Test.YteihffmenfobaaaQInoOpen
namespace Go.Proofs.Yteihffmenfobaaa
open Go.RowKit Go.Shelf
theorem Blk.new3 (w : World) (x y z : Value) (t : TypeId) : Blk (w.alloc (.cells #[x, y, z] t)) w.heap.size t [x, y, z] := heap_alloc_new w _
theorem refWrite_yes (n : IN) (v : Value) (w : World) (hv : Ents w w.heap.size v n.es) (h : n.ok) :
    Calls Try.prog 14 #[.agg #[.int .i64 n.k, .int .i64 n.z, v]] w fun e w' => ∃ g c, e = .returned (.tuple #[.slice (some ⟨g, 0, none⟩) n.bytes.length c, .int .i64 0]) ∧ Own 5 w' w.heap.size (.slice (some ⟨g, 0, none⟩) n.bytes.length c) n.bytes ∧ Below w.heap.size w w' :=
  h.elim (refWrite_file n v w hv) (refWrite_dir n v w hv)
theorem ibytes_len {n : IN} (h : n.ok) : n.bytes.length ≤ maxLen := by
  have h2 := inoR_back h
  unfold inoR at h2
  split at h2
  · rename_i h3
    have := h3.1
    simp only [maxLen]
    omega
  · cases h2
set_option maxRecDepth 100000 in
set_option maxHeartbeats 16000000 in
theorem inodeWrites_walk (n : IN) (v : Value) (w : World) (hv : Ents w w.heap.size v n.es) :
    Calls Try.prog 3 #[.agg #[.int .i64 n.k, .int .i64 n.z, v]] w fun e w' => e = .returned (.bool true) ∧ Below w.heap.size w w' := by
  obtain ⟨A, c, rfl, hc, hm⟩ := hv.shape
  have HB := Lib.hid ((Below.refl w.heap.size w).alloc (Nat.le_refl _) (.cells #[.int .i64 n.k, .int .i64 n.z, .slice A n.es.length c] 24))
  have HV := Lib.hid (hv.after HB.out)
  have HB1 := Lib.hid (Blk.new3 w (.int .i64 n.k) (.int .i64 n.z) (.slice A n.es.length c) 24)
  have KS := Lib.hid (inospeaks_any (w.alloc (.cells #[.int .i64 n.k, .int .i64 n.z, .slice A n.es.length c] 24)))
  obtain ⟨W, hW⟩ : ∃ W, W = w.alloc (.cells #[.int .i64 n.k, .int .i64 n.z, .slice A n.es.length c] 24) := ⟨_, rfl⟩
  obtain ⟨ti, hi, hz, hs, hby⟩ := infoE'
  obtain ⟨NL, hNL⟩ : ∃ NL, n.es.length = NL := ⟨_, rfl⟩
  have HNL := Lib.hid hNL
  clear hv
  rw [hNL] at hc HB HV HB1 KS hW
  rw [hNL]
  clear hNL
  go_enter Try.func3, Try.ntmps3
  rw [← hW] at HB HV HB1 KS
  go_wp2_with fail
  rw [← hW]
  obtain ⟨g1, hg1⟩ : ∃ g1, w.heap.size = g1 := ⟨_, rfl⟩
  have HG1 := Lib.hid hg1
  rw [hg1] at HB1 ⊢
  clear hW hg1
  refine KS.out.mono ?_
  rintro e w1 ⟨rfl, b1⟩
  have T1 := Lib.hid (HB.out.trans (b1.mono HB.out.size))
  have V1 := Lib.hid (HV.out.after b1)
  have C1 := Lib.hid (HB1.out.after b1)
  clear KS b1 HB HV HB1
  by_cases hlen : NL ≤ 40
  · have KG := Lib.hid (igreat_any n _ w1 V1.out (by rw [HNL.out]; exact hlen))
    go_wp2_with (with_reducible refine wpl_seg_load aggI sizeI (.tmp 1) rfl rfl C1.out 0 [.int .i64 n.k, .int .i64 n.z, .slice A NL c] rfl rfl rfl ?_)
    refine KG.out.mono ?_
    rintro e w2 ⟨⟨b, rfl⟩, b2⟩
    have T2 := Lib.hid (T1.out.trans (b2.mono T1.out.size))
    have V2 := Lib.hid (V1.out.after b2)
    have C2 := Lib.hid (C1.out.after b2)
    clear KG b2 T1 V1 C1
    cases b with
    | true =>
      go_wp2_with fail
      go_ret
      exact ⟨rfl, T2.out⟩
    | false =>
      have C3 := Lib.hid ((C2.out.alloc (.cells #[.int .i64 n.k, .int .i64 n.z, .slice A NL c] 24)).alloc (.cells #[] 43))
      have B3 := Lib.hid ((Blk.new3 w2 (.int .i64 n.k) (.int .i64 n.z) (.slice A NL c) 24).alloc (.cells #[] 43))
      have H3 : Hid (Below w2.heap.size w2 ((w2.alloc (.cells #[.int .i64 n.k, .int .i64 n.z, .slice A NL c] 24)).alloc (.cells #[] 43))) := Lib.hid (((Below.refl w2.heap.size w2).alloc (Nat.le_refl _) (.cells #[.int .i64 n.k, .int .i64 n.z, .slice A NL c] 24)).alloc (by simp) (.cells #[] 43))
      have V3 := Lib.hid (V2.out.after H3.out)
      have T3 := Lib.hid (T2.out.trans (H3.out.mono T2.out.size))
      have O3 := Lib.hid (OwnE.made (w2.alloc (.cells #[.int .i64 n.k, .int .i64 n.z, .slice A NL c] 24)) (w2.heap.size + 1) (by simp) (w2.heap.size + 1) (by simp))
      have L3 : Hid (g1 < w2.heap.size) := Lib.hid C2.out.lt
      have Z3 : Hid (w2.heap.size + 2 = ((w2.alloc (.cells #[.int .i64 n.k, .int .i64 n.z, .slice A NL c] 24)).alloc (.cells #[] 43)).heap.size) := Lib.hid (by simp)
      have LT3 := Lib.hid T2.out.size
      have c3 : ((w2.alloc (.cells #[.int .i64 n.k, .int .i64 n.z, .slice A NL c] 24)).alloc (.cells #[] 43)).cell? ⟨g1, 2, none⟩ = some (.slice A NL c) := C3.out.cell 2
      obtain ⟨RB, hRB⟩ : ∃ RB, Row ((w2.alloc (.cells #[.int .i64 n.k, .int .i64 n.z, .slice A NL c] 24)).alloc (.cells #[] 43)) RB A (erows n.es) := by
        obtain ⟨_, _, e1, _, _, h4⟩ := V3.out
        cases e1
        exact ⟨_, h4⟩
      have ROW := Lib.hid hRB
      clear hRB V3
      go_wp2_with (first
        | (with_reducible refine wpl_seg_load aggI sizeI (.tmp 1) rfl rfl C2.out 0 [.int .i64 n.k, .int .i64 n.z, .slice A NL c] rfl rfl rfl ?_)
        | (at_builtin; (refine wpl_append_ents hi hz rfl hs hby rfl (.tmp 15) (.tmp 17) rfl rfl rfl O3.out A NL c n.es HNL.out rfl RB ROW.out (by simp only [List.length_nil]; omega) (by simp) NL (by simp) ?_); intro A4 c4 w4 O4 g4; rw [List.nil_append] at O4; have N4 : (some w2.heap.size : Option Nat) ≠ (Value.slice (some ⟨w2.heap.size + 1, 0, none⟩) 0 0).ownBlock := (by simp [Value.ownBlock]); have B4 := Lib.hid (B3.out.grown g4 N4); have c4x : w4.cell? ⟨w2.heap.size, 2, none⟩ = some (.slice A NL c) := B4.out.cell 2; have f4x := B4.out.free 2; have B5 := Lib.hid (B4.out.set 2 (.slice A4 NL c4)); have HO4 := Lib.hid O4; have HG4 := Lib.hid g4; clear O4 g4 N4 c3)
        | (with_reducible refine wpl_seg_load aggI sizeI (.tmp 3) rfl rfl B5.out 0 [.int .i64 n.k, .int .i64 n.z, .slice A4 NL c4] rfl rfl rfl ?_))
      have H4 := Lib.hid (H3.out.grown HG4.out H3.out.size fun q e => Nat.le_of_succ_le (World.ownsRow.lt O3.out q e).1)
      have s5 := only_set w4 ⟨w2.heap.size, 2, none⟩ (.slice A4 NL c4)
      have H5 := Lib.hid (H4.out.grown s5 H4.out.size fun q e => by cases e; exact Nat.le_refl _)
      have O5 := Lib.hid (HO4.out.kept2 s5 (fun e => by have h : w2.heap.size + 1 ≤ w2.heap.size := (World.ownsRow.lt HO4.out _ e).1; omega))
      have V5 := Lib.hid ((V2.out.below H5.out).more H5.out.size)
      have C5 := Lib.hid (C2.out.below H5.out L3.out)
      have T5 := Lib.hid (T2.out.trans (H5.out.mono T2.out.size))
      have D5 : Hid (Blk (w4.setCell ⟨w2.heap.size, 2, none⟩ (.slice A4 NL c4)) w2.heap.size 24 [.int .i64 n.k, .int .i64 n.z, .slice A4 NL c4]) := B5
      generalize w4.setCell ⟨w2.heap.size, 2, none⟩ (.slice A4 NL c4) = W5 at O5 V5 C5 T5 D5 ⊢
      clear H5 s5 H4 HG4 HO4 B5 B4 c4x f4x ROW O3 T3 B3 C3 H3 C2 T2 V2
      obtain ⟨g3, hg3⟩ : ∃ g3, w2.heap.size = g3 := ⟨_, rfl⟩
      rw [hg3] at O5 D5 LT3 L3 ⊢
      clear hg3
      have E5 := Lib.hid O5.out.ents
      clear O5
      by_cases hok : n.ok
      · have KW := Lib.hid (write_yes n _ W5 E5.out hok)
        have KB := Lib.hid (inoR_back hok)
        obtain ⟨BL, hBL⟩ : ∃ BL, n.bytes = BL := ⟨_, rfl⟩
        have KR := Lib.hid (fun w hv => refWrite_yes n (.slice A NL c) w hv hok)
        rw [hBL] at KW KB KR
        obtain ⟨LN, hLN⟩ : ∃ LN, BL.length = LN := ⟨_, rfl⟩
        have HLE : Hid (BL.length ≤ maxLen) := Lib.hid (by rw [← hBL]; exact ibytes_len hok)
        rw [hLN] at KW KR
        have HLN := Lib.hid hLN
        clear hBL hLN
        refine KW.out.mono ?_
        rintro e w6 ⟨gw, cw, rfl, Ow, b6⟩
        have Y6 := Lib.hid (Ow.bytes HLE.out)
        have E6 := Lib.hid (E5.out.after b6)
        have V6 := Lib.hid (V5.out.after b6)
        have C6 := Lib.hid (C5.out.after b6)
        have D6 := Lib.hid (D5.out.after b6)
        have T6 := Lib.hid (T5.out.trans (b6.mono T5.out.size))
        clear E5 V5 C5 D5 T5
        clear KW b6 Ow
        have KR6 := Lib.hid (KR.out w6 V6.out)
        clear KR
        go_wp2_with (with_reducible refine wpl_seg_load aggI sizeI (.tmp 1) rfl rfl C6.out 0 [.int .i64 n.k, .int .i64 n.z, .slice A NL c] rfl rfl rfl ?_)
        refine KR6.out.mono ?_
        rintro e w7 ⟨gr, cr, rfl, Or, b7⟩
        have Y7 := Lib.hid ((Y6.out.below b7).more b7.size)
        have E7 := Lib.hid (E6.out.after b7)
        have V7 := Lib.hid (V6.out.after b7)
        have C7 := Lib.hid (C6.out.after b7)
        have D7 := Lib.hid (D6.out.after b7)
        have T7 := Lib.hid (T6.out.trans (b7.mono T6.out.size))
        clear E6 V6 C6 D6 T6
        have hs1 := str_of Y7.out
        have hs2 := str_of (Or.bytes HLE.out)
        obtain ⟨st, hst⟩ : ∃ st : ByteArray, ⟨BL.toArray⟩ = st := ⟨_, rfl⟩
        rw [hst] at hs1 hs2
        have i1 : (st.toList == st.toList) = true := by simp
        have KC := Lib.hid (check_any n _ w7 E7.out)
        rw [if_pos hok] at KC
        clear Or b7 KR6 hst Y6
        go_wp2_with (with_reducible refine wpl_seg_load aggI sizeI (.tmp 3) rfl rfl D7.out 0 [.int .i64 n.k, .int .i64 n.z, .slice A4 NL c4] rfl rfl rfl ?_)
        refine KC.out.mono ?_
        rintro e w8 ⟨rfl, b8⟩
        have Y8 := Lib.hid ((Y7.out.below b8).more b8.size)
        have E8 := Lib.hid (E7.out.after b8)
        have V8 := Lib.hid (V7.out.after b8)
        have C8 := Lib.hid (C7.out.after b8)
        have D8 := Lib.hid (D7.out.after b8)
        have T8 := Lib.hid (T7.out.trans (b8.mono T7.out.size))
        clear E7 V7 C7 D7 T7
        have KM := Lib.hid (same_yes n _ _ w8 E8.out V8.out)
        clear hs1 hs2 KC b8 Y7
        go_wp2_with (first | (with_reducible refine wpl_seg_load aggI sizeI (.tmp 3) rfl rfl D8.out 0 [.int .i64 n.k, .int .i64 n.z, .slice A4 NL c4] rfl rfl rfl ?_) | (with_reducible refine wpl_seg_load aggI sizeI (.tmp 1) rfl rfl C8.out 0 [.int .i64 n.k, .int .i64 n.z, .slice A NL c] rfl rfl rfl ?_))
        refine KM.out.mono ?_
        rintro e w9 ⟨rfl, b9⟩
        have Y9 := Lib.hid ((Y8.out.below b9).more b9.size)
        have E9 := Lib.hid (E8.out.after b9)
        have V9 := Lib.hid (V8.out.after b9)
        have C9 := Lib.hid (C8.out.after b9)
        have D9 := Lib.hid (D8.out.after b9)
        have T9 := Lib.hid (T8.out.trans (b9.mono T8.out.size))
        clear E8 V8 C8 D8 T8
        have KD := Lib.hid (read_any _ BL w9 Y9.out)
        rw [KB.out] at KD
        clear KM b9 Y8
        go_wp2_with fail
        refine KD.out.mono ?_
        rintro e w10 ⟨m, hm, Ad, cd, rfl, Od, b10⟩
        obtain rfl : m = n := hm.out
        have E10 := Lib.hid (E9.out.after b10)
        have V10 := Lib.hid (V9.out.after b10)
        have C10 := Lib.hid (C9.out.after b10)
        have D10 := Lib.hid (D9.out.after b10)
        have T10 := Lib.hid (T9.out.trans (b10.mono T9.out.size))
        clear E9 V9 C9 D9 T9
        have e0 : errR (some m) = 0 := rfl
        have Ed := Lib.hid Od.ents
        rw [e0, HNL.out]
        rw [HNL.out] at Ed
        have b11 := (Below.refl w10.heap.size w10).alloc (Nat.le_refl _) (.cells #[.int .i64 m.k, .int .i64 m.z, .slice Ad NL cd] 24)
        have C11 := Lib.hid (C10.out.after b11)
        have B11 := Lib.hid (Blk.new3 w10 (.int .i64 m.k) (.int .i64 m.z) (.slice Ad NL cd) 24)
        have T11 := Lib.hid (T10.out.trans (b11.mono T10.out.size))
        have KM := Lib.hid (same_yes m _ _ _ (Ed.out.after b11) (V10.out.after b11))
        clear Od b10 b11 hm Ed C10 E10 V10 D10 T10 KD KB Y9 e0
        go_wp2_with (first | (with_reducible refine wpl_seg_load aggI sizeI (.tmp 8) rfl rfl B11.out 0 [.int .i64 m.k, .int .i64 m.z, .slice Ad NL cd] rfl rfl rfl ?_) | (with_reducible refine wpl_seg_load aggI sizeI (.tmp 1) rfl rfl C11.out 0 [.int .i64 m.k, .int .i64 m.z, .slice A NL c] rfl rfl rfl ?_))
        refine KM.out.mono ?_
        rintro e w12 ⟨rfl, b12⟩
        have T12 := Lib.hid (T11.out.trans (b12.mono T11.out.size))
        clear KM b12
        go_wp2_with fail
        go_ret
        exact ⟨rfl, T12.out⟩
      · have KW := Lib.hid (write_no n _ W5 E5.out hok)
        refine KW.out.mono ?_
        rintro e w6 ⟨rfl, b6⟩
        have E6 := Lib.hid (E5.out.after b6)
        have V6 := Lib.hid (V5.out.after b6)
        have C6 := Lib.hid (C5.out.after b6)
        have D6 := Lib.hid (D5.out.after b6)
        have T6 := Lib.hid (T5.out.trans (b6.mono T5.out.size))
        clear E5 V5 C5 D5 T5
        clear KW b6
        have KR := Lib.hid (refWrite_no n _ w6 V6.out hok)
        go_wp2_with (with_reducible refine wpl_seg_load aggI sizeI (.tmp 1) rfl rfl C6.out 0 [.int .i64 n.k, .int .i64 n.z, .slice A NL c] rfl rfl rfl ?_)
        refine KR.out.mono ?_
        rintro e w7 ⟨gr, cr, rfl, Or, b7⟩
        have E7 := Lib.hid (E6.out.after b7)
        have V7 := Lib.hid (V6.out.after b7)
        have C7 := Lib.hid (C6.out.after b7)
        have D7 := Lib.hid (D6.out.after b7)
        have T7 := Lib.hid (T6.out.trans (b7.mono T6.out.size))
        clear E6 V6 C6 D6 T6
        have h1 : Bytes w7 w7.heap.size (.slice none 0 0) [] := ⟨none, 0, rfl, Nat.le_refl _, by simp [maxLen], Row.nil⟩
        have hs1 := str_of h1
        have hs2 := str_of (Or.bytes (by simp [maxLen]))
        obtain ⟨st, hst⟩ : ∃ st : ByteArray, ⟨([] : List UInt8).toArray⟩ = st := ⟨_, rfl⟩
        rw [hst] at hs1 hs2
        have i1 : (st.toList == st.toList) = true := by simp
        have KC := Lib.hid (check_any n _ w7 E7.out)
        rw [if_neg hok] at KC
        clear h1 Or b7 KR hst
        go_wp2_with (with_reducible refine wpl_seg_load aggI sizeI (.tmp 3) rfl rfl D7.out 0 [.int .i64 n.k, .int .i64 n.z, .slice A4 NL c4] rfl rfl rfl ?_)
        refine KC.out.mono ?_
        rintro e w8 ⟨rfl, b8⟩
        have E8 := Lib.hid (E7.out.after b8)
        have V8 := Lib.hid (V7.out.after b8)
        have C8 := Lib.hid (C7.out.after b8)
        have D8 := Lib.hid (D7.out.after b8)
        have T8 := Lib.hid (T7.out.trans (b8.mono T7.out.size))
        clear E7 V7 C7 D7 T7
        have KM := Lib.hid (same_yes n _ _ w8 E8.out V8.out)
        clear hs1 hs2 KC b8
        go_wp2_with (first | (with_reducible refine wpl_seg_load aggI sizeI (.tmp 3) rfl rfl D8.out 0 [.int .i64 n.k, .int .i64 n.z, .slice A4 NL c4] rfl rfl rfl ?_) | (with_reducible refine wpl_seg_load aggI sizeI (.tmp 1) rfl rfl C8.out 0 [.int .i64 n.k, .int .i64 n.z, .slice A NL c] rfl rfl rfl ?_))
        refine KM.out.mono ?_
        rintro e w9 ⟨rfl, b9⟩
        have T9 := Lib.hid (T8.out.trans (b9.mono T8.out.size))
        clear KM b9
        go_wp2_with fail
        go_ret
        exact ⟨rfl, T9.out⟩
  · have KG := Lib.hid (igreat_yes n _ w1 V1.out (by rw [HNL.out]; omega))
    go_wp2_with (with_reducible refine wpl_seg_load aggI sizeI (.tmp 1) rfl rfl C1.out 0 [.int .i64 n.k, .int .i64 n.z, .slice A NL c] rfl rfl rfl ?_)
    refine KG.out.mono ?_
    rintro e w2 ⟨rfl, b2⟩
    go_wp2_with fail
    go_ret
    exact ⟨rfl, T1.out.trans (b2.mono T1.out.size)⟩
theorem inodeWrites_any (u : Value) (w : World) (h : ∃ n, IsInode w w.heap.size u n) :
    Calls Try.prog 3 #[u] w fun e w' => e = .returned (.bool true) ∧ Below w.heap.size w w' := by
  obtain ⟨n, ⟨v, rfl, hv⟩, _, _⟩ := h
  exact inodeWrites_walk n v w hv
end Go.Proofs.Yteihffmenfobaaa


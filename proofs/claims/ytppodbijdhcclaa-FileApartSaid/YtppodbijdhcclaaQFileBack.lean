/- The walk of FileBack: it answers true, and changes nothing that was there. No condition but that the bytes are there. -/
import Derived.Test.YtppodbijdhcclaaQFileJF
namespace Go.Proofs.Ytppodbijdhcclaa
open Go Go.RowKit
/-- Write where there is room, of nothing too -/
theorem fwrite_five (i : CI) (N : Nat) (F : FS) (S : Nat → Prop) (n : Int) (l dl : List UInt8) (o : Nat) (v : Value) (w : World) (h : FAt w i N F S) (hF : F n = some (.file l)) (h5 : F.five) (hm : i.mo = 60) (hN : N ≤ 900000) (hv : Bytes w w.heap.size v dl) (hb : o + dl.length ≤ 768) :
    Calls Try.prog 33 #[.pointer (some ⟨i.q, 0, none⟩), .int .i64 n, .int .i64 (o : Int), v] w fun e w' => e = .returned (.int .i64 0) ∧ w.grownBy w' (some i.m) ∧ ∃ S', FAt w' i (N + 20) (F.put n (some (.file (if dl = [] then l else writeL l o dl)))) S' := by
  by_cases hd : dl = []
  · subst hd
    rw [if_pos rfl]
    obtain ⟨A, c, rfl, _⟩ := id hv
    refine (fwrite_nil i N F S n l (o : Int) A c w h hF (by omega)).mono ?_
    rintro e w' ⟨rfl, b⟩
    refine ⟨rfl, only_of_below b _, S, ?_⟩
    rw [FS.put_self hF]
    exact (h.after b).more (by omega)
  · rw [if_neg hd]
    have hpos : 0 < dl.length := by
      cases dl with
      | nil => exact absurd rfl hd
      | cons x r => simp
    refine (fwrite_file i N F S n l dl o v w h hF hN hv hpos hb).mono ?_
    rintro e w' hr
    obtain ⟨h1, h2, S', h3, _⟩ := hr.ok (by rw [hm]; exact (h5.put hF _).room)
    exact ⟨h1, h2, S', h3⟩
/-- what stands there behind a Write -/
def backL (l : List UInt8) (o : Nat) (dl : List UInt8) : List UInt8 := if dl = [] then l else writeL l o dl
theorem backL_len (l : List UInt8) (o : Nat) (dl : List UInt8) : (backL l o dl).length = if dl.length = 0 then l.length else max l.length (o + dl.length) := by
  unfold backL
  by_cases h : dl = []
  · rw [if_pos h, if_pos (by rw [h]; rfl)]
  · rw [if_neg h, if_neg (fun e => h (List.eq_nil_of_length_eq_zero e)), writeL_len]
theorem backL_get (l : List UInt8) (o : Nat) (dl : List UInt8) (b : Nat) : (backL l o dl).getD b 0 = if o ≤ b ∧ b < o + dl.length then dl.getD (b - o) 0 else l.getD b 0 := by
  unfold backL
  by_cases h : dl = []
  · rw [if_pos h, if_neg (by rw [h]; simp)]
  · rw [if_neg h, writeL_get]
theorem backL_part (l : List UInt8) (o : Nat) (dl : List UInt8) : ((backL l o dl).drop o).take dl.length = dl := by
  by_cases h : dl = []
  · subst h; simp
  · refine List.ext_getElem? (fun b => ?_)
    rw [List.getElem?_take]
    by_cases hb : b < dl.length
    · rw [if_pos hb, List.getElem?_drop]
      have h1 := backL_get l o dl (o + b)
      rw [if_pos ⟨by omega, by omega⟩, show o + b - o = b by omega] at h1
      have h2 : o + b < (backL l o dl).length := by rw [backL_len, if_neg (by omega)]; omega
      rw [List.getD_eq_getElem?_getD, List.getD_eq_getElem?_getD, List.getElem?_eq_getElem h2, List.getElem?_eq_getElem hb] at h1
      rw [List.getElem?_eq_getElem h2, List.getElem?_eq_getElem hb]
      simp only [Option.getD_some] at h1
      rw [h1]
    · rw [if_neg hb, List.getElem?_eq_none (by omega)]
theorem bytes_at {w : World} {B : Nat} {A : Option Addr} {n c : Nat} {l : List UInt8} (h : Bytes w B (.slice A n c) l) {k : Nat} {b : UInt8} (hk : l[k]? = some b) : ∃ a, A = some a ∧ w.cell? (a.add k) = some (.int .u8 (b.toNat : Int)) := by
  obtain ⟨A', c', e, _, _, hr⟩ := h
  obtain ⟨rfl, _, _⟩ := Value.slice.inj e
  obtain ⟨a, rfl, _, hc⟩ := hr k (.int .u8 (b.toNat : Int)) (by unfold bv; rw [List.getElem?_map, hk]; rfl)
  exact ⟨a, rfl, hc⟩
set_option maxRecDepth 100000 in
set_option maxHeartbeats 16000000 in
theorem fileBack_any (size off : Int) (v : Value) (w : World) (_ : (Lit.int .i64 size).wf = true) (_ : (Lit.int .i64 off).wf = true) (hv : ∃ dl, Bytes w w.heap.size v dl) :
    Calls Try.prog 8 #[.int .i64 size, .int .i64 off, v] w fun e w' => e = .returned (.bool true) ∧ Below w.heap.size w w' := by
  obtain ⟨dl, hv⟩ := hv
  obtain ⟨DA, DC, rfl, hdc, hdm, _⟩ := id hv
  have HV := Lib.hid hv
  have KS := Lib.hid (fspeaks_any w)
  obtain ⟨n, hn⟩ : ∃ n, n = dl.length := ⟨_, rfl⟩
  have HN := Lib.hid hn
  rw [← hn] at hdc HV ⊢
  unfold maxLen at hdm
  clear hv hn
  by_cases hbig : 768 < n
  · have d1 : (768 : Int) < (n : Int) := by omega
    go_enter Try.func8, Try.ntmps8
    go_wp2_with (go_at_call 25; (with_reducible refine KS.out.mono ?_); rintro e w1 ⟨rfl, b1⟩; have T1 := Lib.hid b1; clear b1)
    go_ret
    exact ⟨rfl, T1.out⟩
  · have d1 : ¬ (768 : Int) < (n : Int) := by omega
    by_cases hneg : off < 0
    · have d2 : decide (off < 0) = true := decide_eq_true hneg
      go_enter Try.func8, Try.ntmps8
      go_wp2_with (go_at_call 25; (with_reducible refine KS.out.mono ?_); rintro e w1 ⟨rfl, b1⟩; have T1 := Lib.hid b1; clear b1)
      go_ret
      exact ⟨rfl, T1.out⟩
    · have d2 : decide (off < 0) = false := decide_eq_false hneg
      by_cases hfar : 768 - (n : Int) < off
      · go_enter Try.func8, Try.ntmps8
        go_wp2_with (go_at_call 25; (with_reducible refine KS.out.mono ?_); rintro e w1 ⟨rfl, b1⟩; have T1 := Lib.hid b1; clear b1)
        go_ret
        exact ⟨rfl, T1.out⟩
      · obtain ⟨o, rfl⟩ : ∃ o : Nat, off = (o : Int) := ⟨off.toNat, by omega⟩
        have hb : o + n ≤ 768 := by omega
        have KL := Lib.hid (fun w => laid20_any [size, 0, 0, 0] 60 w rfl)
        obtain ⟨F, hF⟩ : ∃ F, F = laidTo [size, 0, 0, 0] 4 := ⟨_, rfl⟩
        have H2 : Hid (F 2 = if sizeZ size ≤ 768 then some (.file (dataL (sizeZ size) 0)) else none) := Lib.hid (by rw [hF]; exact laid_two size)
        have H5 : Hid F.five := Lib.hid (by rw [hF]; exact laidTo_five _ 4 (Nat.le_refl _))
        rw [← hF] at KL
        clear hF
        simp only [List.map_cons, List.map_nil] at KL
        go_enter Try.func8, Try.ntmps8
        go_upto_region 8 with (first
          | (go_at_call 25; (with_reducible refine KS.out.mono ?_); rintro e w1 ⟨rfl, b1⟩; have T1 := Lib.hid b1; clear b1)
          | (go_at_call 26; (with_reducible refine (KL.out _).mono ?_); rintro e w2 ⟨q, m, s, d, rfl, C2', D2', S2', b2⟩; have C2 := Lib.hid C2'; have T2 := Lib.hid (T1.out.trans (b2.mono T1.out.size)); have HM : Hid (w.heap.size ≤ m) := Lib.hid (Nat.le_trans T1.out.size S2'.2.2.2.2.2.1); clear C2' D2' S2' b2 T1))
        clear KS KL
        by_cases hsz : sizeZ size ≤ 768
        · obtain ⟨l, hl⟩ : ∃ l, l = dataL (sizeZ size) 0 := ⟨_, rfl⟩
          have h2 := H2.out
          rw [if_pos hsz, ← hl] at h2
          have HF2 := Lib.hid h2
          have hlen : l.length ≤ 768 := by rw [hl, dataL_len]; exact hsz
          clear H2 h2 hl hsz
          have KR := Lib.hid (fread_file ⟨q, m, s, bsN F.nat, thN F.nat, 60⟩ 0 F _ 2 l 0 1000 w2 C2.out HF2.out)
          have e1 : ((l.drop 0).take 1000) = l := by rw [List.drop_zero]; exact List.take_of_length_le (by omega)
          rw [e1, show ((0 : Nat) : Int) = 0 from rfl, show ((1000 : Nat) : Int) = 1000 from rfl] at KR
          clear e1
          go_upto_region 11 with (go_at_call 28; (with_reducible refine KR.out.mono ?_); rintro e w3 ⟨A3, c3, z3, hz3, rfl, O3, b3⟩; have HZ3 := Lib.hid hz3.out; have HO3 := Lib.hid O3; have C3 := Lib.hid (C2.out.after b3); have T3 := Lib.hid (T2.out.trans (b3.mono T2.out.size)); have LM : Hid (m < w2.heap.size) := Lib.hid C2.out.lt.2.1; clear hz3 O3 b3)
          clear KR
          obtain ⟨B, hB⟩ : ∃ B, B = w2.heap.size := ⟨_, rfl⟩
          rw [← hB] at HO3 LM
          clear hB C2 T2
          have HV3 := Lib.hid ((HV.out.below T3.out).more T3.out.size)
          have K1 := Lib.hid (fwrite_five ⟨q, m, s, bsN F.nat, thN F.nat, 60⟩ 0 F _ 2 l dl o (.slice DA n DC) w3 C3.out HF2.out H5.out rfl (by omega) HV3.out (by rw [← HN.out]; exact hb))
          change Hid (Calls _ _ _ _ fun e w' => _ ∧ _ ∧ ∃ S', FAt w' _ _ (F.put 2 (some (.file (backL l o dl)))) S') at K1
          obtain ⟨X, hX⟩ : ∃ X, X = backL l o dl := ⟨_, rfl⟩
          have HXL : Hid (X.length = if n = 0 then l.length else max l.length (o + n)) := Lib.hid (by rw [hX, backL_len, HN.out])
          have HXG : Hid (∀ b, X.getD b 0 = if o ≤ b ∧ b < o + n then dl.getD (b - o) 0 else l.getD b 0) := Lib.hid (fun b => by rw [hX, backL_get, HN.out])
          have HXP : Hid ((X.drop o).take n = dl) := Lib.hid (by rw [hX, HN.out]; exact backL_part l o dl)
          have hx7 : X.length ≤ 768 := by have := HXL.out; split at this <;> omega
          rw [← hX] at K1
          obtain ⟨G, hG⟩ : ∃ G, G = F.put 2 (some (.file X)) := ⟨_, rfl⟩
          have HG2 : Hid (G 2 = some (.file X)) := Lib.hid (by rw [hG]; unfold FS.put; rw [if_pos rfl])
          rw [← hG] at K1
          clear hG hX
          obtain ⟨xl, hxl⟩ : ∃ xl, xl = X.length := ⟨_, rfl⟩
          have HXN := Lib.hid hxl
          rw [← hxl] at HXL hx7
          clear hxl
          go_upto_region 12 with (go_at_call 33; (refine K1.out.mono ?_); rintro e w4 ⟨rfl, g4, S4, C4'⟩; have C4 := Lib.hid C4'; have T4 := Lib.hid (T3.out.grown g4 T3.out.size (fun k e => by cases e; exact HM.out)); have O4 := Lib.hid (World.ownsRow.kept HO3.out g4 (.inr fun e => by have h1 := (World.ownsRow.lt HO3.out m e).1; have := LM.out; omega)); clear g4 C4' K1)
          have KR1 := Lib.hid (fread_file ⟨q, m, s, bsN F.nat, thN F.nat, 60⟩ (0 + 20) G _ 2 X o n w4 C4.out HG2.out)
          rw [HXP.out] at KR1
          go_upto_region 13 with (go_at_call 28; (with_reducible refine KR1.out.mono ?_); rintro e w5 ⟨A5, c5, z5, hz5, rfl, P5, b5⟩; obtain rfl : z5 = n := hz5.out.symm.trans HN.out.symm; have HP5 := Lib.hid P5; have C5 := Lib.hid (C4.out.after b5); have T5 := Lib.hid (T4.out.trans (b5.mono T4.out.size)); have O5 := Lib.hid (show Own 5 w5 B (.slice A3 z3 c3) l from World.ownsRow.kept O4.out (only_of_below b5 none) (by cases (Value.slice A3 z3 c3).ownBlock <;> simp)); clear hz5 P5 b5)
          have KR2 := Lib.hid (fread_file ⟨q, m, s, bsN F.nat, thN F.nat, 60⟩ (0 + 20) G _ 2 X 0 4611686018427387904 w5 C5.out HG2.out)
          have e2 : ((X.drop 0).take 4611686018427387904) = X := by rw [List.drop_zero]; exact List.take_of_length_le (by have := HXN.out; omega)
          rw [e2, show ((0 : Nat) : Int) = 0 from rfl, show ((4611686018427387904 : Nat) : Int) = 4611686018427387904 from rfl] at KR2
          clear e2 KR1
          go_upto_region 14 with (go_at_call 28; (with_reducible refine KR2.out.mono ?_); rintro e w6 ⟨A6, c6, z6, hz6, rfl, P6, b6⟩; obtain rfl : z6 = xl := hz6.out.symm.trans HXN.out.symm; have HP6 := Lib.hid P6; have C6 := Lib.hid (C5.out.after b6); have T6 := Lib.hid (T5.out.trans (b6.mono T5.out.size)); have O6 := Lib.hid (show Own 5 w6 B (.slice A3 z3 c3) l from World.ownsRow.kept O5.out (only_of_below b6 none) (by cases (Value.slice A3 z3 c3).ownBlock <;> simp)); have Q6 := Lib.hid (((HP5.out.bytes (by rw [← HN.out]; unfold maxLen; omega)).below b6)); clear hz6 P6 b6)
          clear KR2 C5 T5 O5 HP5 C4 T4 O4
          have HV6 := Lib.hid ((HV.out.below T6.out).more T6.out.size)
          have hr1 := run_str (w := w6) (st := 9) byteTys Try.underlying5 Try.underlying9 Q6.out
          have hr2 := run_str (w := w6) (st := 9) byteTys Try.underlying5 Try.underlying9 HV6.out
          go_upto_region 17 with fail
          clear hr1 hr2 Q6
          go_loopw [89] (fun x wr => ∃ j : Nat, j ≤ z6 ∧ x = .int .i64 (j : Int) ∧ Hid (w6 = wr)) (fun x _ => z6 - (intOf x).toNat)
          case atStart => exact ⟨0, Nat.zero_le _, rfl, Lib.hid rfl⟩
          case round =>
            obtain ⟨j, hj, rfl, hw⟩ := hrel
            obtain rfl := hw.out
            by_cases hlt : j < z6
            · obtain ⟨g6, rfl, c1⟩ := own_at HP6.out (j := j) (by rw [← HXN.out]; exact hlt)
              have hx := HXG.out j
              obtain ⟨v, hv⟩ : ∃ v, v = X.getD j 0 := ⟨_, rfl⟩
              rw [← hv] at c1 hx
              clear hv
              by_cases hin : o ≤ j ∧ j < o + z5
              · rw [if_pos hin] at hx
                have hjo : j - o < dl.length := by rw [← HN.out]; omega
                obtain ⟨jo, hjoe⟩ : ∃ jo, jo = j - o := ⟨_, rfl⟩
                have HJO := Lib.hid hjoe
                rw [← hjoe] at hx hjo
                have hjz : jo < z5 := by rw [HN.out]; exact hjo
                have e3 : (j : Int) - (o : Int) = (jo : Int) := by omega
                obtain ⟨dv, hdv⟩ : ∃ dv, dl[jo]? = some dv := ⟨_, List.getElem?_eq_getElem hjo⟩
                have hx2 : v = dv := by rw [hx, List.getD_eq_getElem?_getD, hdv]; rfl
                obtain ⟨ad, had, c3⟩ := bytes_at HV6.out hdv
                subst had
                clear hx hjoe
                subst hx2
                by_cases hl : j < z3
                · obtain ⟨g3, rfl, c2⟩ := own_at O6.out (j := j) (by rw [HZ3.out]; exact hl)
                  go_wp2_with fail
                  exact ⟨⟨j + 1, by omega, by go_num, Lib.hid trivial⟩, by simp [intOf]; omega⟩
                · go_wp2_with fail
                  exact ⟨⟨j + 1, by omega, by go_num, Lib.hid trivial⟩, by simp [intOf]; omega⟩
              · rw [if_neg hin] at hx
                by_cases hl : j < z3
                · obtain ⟨g3, rfl, c2⟩ := own_at O6.out (j := j) (by rw [HZ3.out]; exact hl)
                  rw [← hx] at c2
                  clear hx
                  by_cases hoj : o ≤ j
                  · have d5 : ¬ j < o + z5 := fun h => hin ⟨hoj, h⟩
                    go_wp2_with fail
                    exact ⟨⟨j + 1, by omega, by go_num, Lib.hid trivial⟩, by simp [intOf]; omega⟩
                  · go_wp2_with fail
                    exact ⟨⟨j + 1, by omega, by go_num, Lib.hid trivial⟩, by simp [intOf]; omega⟩
                · have hv0 : v = 0 := by rw [hx, List.getD_eq_getElem?_getD, List.getElem?_eq_none (by rw [HZ3.out]; omega)]; rfl
                  clear hx
                  subst hv0
                  by_cases hoj : o ≤ j
                  · have d5 : ¬ j < o + z5 := fun h => hin ⟨hoj, h⟩
                    go_wp2_with fail
                    exact ⟨⟨j + 1, by omega, by go_num, Lib.hid trivial⟩, by simp [intOf]; omega⟩
                  · go_wp2_with fail
                    exact ⟨⟨j + 1, by omega, by go_num, Lib.hid trivial⟩, by simp [intOf]; omega⟩
            · obtain rfl : j = z6 := by omega
              have hxl := HXL.out
              rw [HZ3.out] at hxl
              by_cases hn0 : z5 = 0
              · rw [if_pos hn0] at hxl
                subst hxl
                have d7 : ¬ (0 : Int) < (z5 : Int) := by omega
                go_wp2_with fail
                go_ret
                exact ⟨rfl, T6.out⟩
              · rw [if_neg hn0] at hxl
                have d7 : (0 : Int) < (z5 : Int) := by omega
                have m7 : max (z3 : Int) ((o : Int) + (z5 : Int)) = (j : Int) := by omega
                clear hxl
                go_wp2_with fail
                go_ret
                exact ⟨rfl, T6.out⟩
        · have h2 := H2.out
          rw [if_neg hsz] at h2
          have KR := Lib.hid (fread_none ⟨q, m, s, bsN F.nat, thN F.nat, 60⟩ 0 F _ 2 0 1000 w2 C2.out h2)
          clear H2 h2
          go_wp2_with (go_at_call 28; (with_reducible refine KR.out.mono ?_); rintro e w3 ⟨rfl, b3⟩; have T3 := Lib.hid (T2.out.trans (b3.mono T2.out.size)); clear b3)
          go_ret
          exact ⟨rfl, T3.out⟩
end Go.Proofs.Ytppodbijdhcclaa


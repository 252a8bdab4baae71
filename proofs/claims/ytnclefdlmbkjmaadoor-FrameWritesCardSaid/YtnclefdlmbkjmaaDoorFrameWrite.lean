/- The contract of the reference's Write: the page of the record; nothing that was there is changed. No condition but the arguments' shape. -/
import Derived.Test.YtnclefdlmbkjmaaDoorFrameRef
namespace Go.Proofs.YtnclefdlmbkjmaaDoor
open Go.RowKit
set_option maxRecDepth 100000 in
set_option maxHeartbeats 8000000 in
theorem refWrite_bad (kind : UInt8) (body : List UInt8) (A : Option Addr) (c : Nat) (w : World) (hlen : body.length ≤ maxLen) (hbad : kind = 0 ∨ kind = 255 ∨ 240 < body.length) :
    Calls Tryd.prog 10 #[.int .u8 ((kind.toNat : Nat) : Int), .slice A body.length c] w fun e w' => e = .returned (.tuple #[.agg (cl pzeros), .int .i64 1]) ∧ Below w.heap.size w w' := by
  have R0 := PArr.new w pzeros_length
  have z := zeroPage
  unfold maxLen at hlen
  obtain ⟨k, hk⟩ : ∃ k, k = kind.toNat := ⟨_, rfl⟩
  have hk2 : k < 256 := hk ▸ kind.toNat_lt
  have hb0 : Below w.heap.size w (w.alloc (.cells (cl pzeros) 26)) := (Below.refl _ _).alloc (Nat.le_refl _) _
  have hbad' : k = 0 ∨ k = 255 ∨ 240 < body.length := by
    rcases hbad with h | h | h
    · exact .inl (by rw [hk, h]; rfl)
    · exact .inr (.inl (by rw [hk, h]; rfl))
    · exact .inr (.inr h)
  rw [← hk]
  clear hk hbad
  go_enter Tryd.func10, Tryd.ntmps10
  by_cases h0 : k = 0
  · subst h0
    go_wp2_with (with_reducible refine wpl_pstore (.tmp 4) (.tmp 24) rfl rfl R0 rfl pzeros_length rfl ?_; intro w4 R4 g4 e4)
    refine bodyPost_ret (pret2 rfl _ R4 rfl) rfl ?_
    exact ⟨rfl, hb0.grown g4 (by simp) (fun k e => by cases e; exact Nat.le_refl _)⟩
  · have d0 : ((k : Int) == 0) = false := by simp; omega
    by_cases h1 : k = 255
    · subst h1
      go_wp2_with (with_reducible refine wpl_pstore (.tmp 4) (.tmp 24) rfl rfl R0 rfl pzeros_length rfl ?_; intro w4 R4 g4 e4)
      refine bodyPost_ret (pret2 rfl _ R4 rfl) rfl ?_
      exact ⟨rfl, hb0.grown g4 (by simp) (fun k e => by cases e; exact Nat.le_refl _)⟩
    · have d1 : ((k : Int) == 255) = false := by simp; omega
      have d2 : decide ((240 : Int) < (body.length : Int)) = true := by simp; omega
      clear hbad'
      go_wp2_with (with_reducible refine wpl_pstore (.tmp 4) (.tmp 24) rfl rfl R0 rfl pzeros_length rfl ?_; intro w4 R4 g4 e4)
      refine bodyPost_ret (pret2 rfl _ R4 rfl) rfl ?_
      exact ⟨rfl, hb0.grown g4 (by simp) (fun k e => by cases e; exact Nat.le_refl _)⟩
set_option maxRecDepth 100000 in
set_option maxHeartbeats 8000000 in
theorem refWrite_good (kind : UInt8) (body : List UInt8) (A : Option Addr) (c : Nat) (w : World) (B : Nat) (hr : Row w B A (bv body)) (hB : B ≤ w.heap.size) (h0 : kind ≠ 0) (h1 : kind ≠ 255) (hlen : body.length ≤ 240) :
    Calls Tryd.prog 10 #[.int .u8 ((kind.toNat : Nat) : Int), .slice A body.length c] w fun e w' => e = .returned (.tuple #[.agg (cl (FM.page kind body)), .int .i64 0]) ∧ Below w.heap.size w w' := by
  have z := zeroPage
  have z2 := zeroData
  have R0 := Lib.hid ((PArr.new w pzeros_length).alloc (.cells (cl HM.zeros) 45))
  have D0 := Lib.hid (Arr.new (w.alloc (.cells (cl pzeros) 26)) HM.zeros_length)
  rw [World.size_alloc] at D0
  have B0 : Hid (Below w.heap.size w ((w.alloc (.cells (cl pzeros) 26)).alloc (.cells (cl HM.zeros) 45))) := Lib.hid (((Below.refl _ _).alloc (Nat.le_refl _) _).alloc (by simp) _)
  have hk2 := kind.toNat_lt
  have e0 : ¬ kind.toNat = 0 := fun e => h0 (UInt8.toNat_inj.1 e)
  have e1 : ¬ kind.toNat = 255 := fun e => h1 (UInt8.toNat_inj.1 e)
  have d0 : ((kind.toNat : Int) == 0) = false := by simp; omega
  have d1 : ((kind.toNat : Int) == 255) = false := by simp; omega
  have d2 : decide ((240 : Int) < (body.length : Int)) = false := by simp; omega
  obtain ⟨bl, hbl⟩ : ∃ bl, bl = UInt8.ofNat body.length := ⟨_, rfl⟩
  have hbl2 : (body.length : Int) = ((bl.toNat : Nat) : Int) := by
    rw [hbl, UInt8.toNat_ofNat']
    omega
  have HBL := Lib.hid hbl2
  have HBL0 := Lib.hid hbl
  clear h0 h1 e0 e1 hbl hbl2
  go_enter Tryd.func10, Tryd.ntmps10
  go_wp2_with (first
    | (with_reducible refine wpl_store (.tmp 6) (.tmp 25) rfl rfl D0.out rfl HM.zeros_length rfl ?_; intro w4 D4 g4 e4)
    | (with_reducible refine wpl_put (.tmp 27) (.tmp 26) rfl rfl D4 0 (by omega) kind rfl rfl ?_; intro w5 D5 g5)
    | (refine wpl_put (.tmp 31) (.tmp 30) rfl rfl D5 1 (by omega) bl rfl (congrArg (Value.int .u8) HBL.out) ?_; intro w6 D6 g6))
  have P4 := R0.out.grown g4 (by omega)
  have P5 := P4.grown g5 (by omega)
  have P6 := Lib.hid (P5.grown g6 (by omega))
  have b4 := B0.out.grown g4 B0.out.size (fun k e => by cases e; omega)
  have b5 := b4.grown g5 b4.size (fun k e => by cases e; omega)
  have B6 := Lib.hid (b5.grown g6 b5.size (fun k e => by cases e; omega))
  rw [FM.zeros_two kind bl body] at D6
  have HD6 := Lib.hid D6
  clear R0 D0 B0 P4 P5 b4 b5 D4 D5 D6 g4 g5 g6 e4
  go_loopw [7] (fun i wr => ∃ k : Nat, k ≤ body.length ∧ i = .int .i64 k ∧ Arr wr (w.heap.size + 1) (FM.fill [kind, bl] body 254 k) ∧ PArr wr w.heap.size pzeros ∧ Below w.heap.size w wr) (fun i _ => body.length - (intOf i).toNat)
  case atStart => exact ⟨0, Nat.zero_le _, rfl, HD6.out, P6.out, B6.out⟩
  case round =>
    obtain ⟨k, hk, rfl, hA, hP, hb⟩ := hrel
    clear HD6 P6 B6
    have HA := Lib.hid hA
    have HP := Lib.hid hP
    have HB := Lib.hid hb
    clear hA hP hb
    by_cases hlt : k < body.length
    · obtain ⟨a, rfl, hab, hcell⟩ := hr.at_ (k := k) (by rw [bv_length]; exact hlt)
      have hc2 := (HB.out.cell (p := a.add k) (by rw [add_block]; omega)).trans hcell
      have hbk := bv_get hlt
      rw [List.getElem?_eq_getElem (by rw [bv_length]; exact hlt)] at hbk
      rw [Option.some.inj hbk] at hc2
      obtain ⟨bb, hbb⟩ : ∃ bb, bb = body[k] := ⟨_, rfl⟩
      rw [← hbb] at hc2
      have HBB := Lib.hid hbb
      have HF : Hid ((FM.fill [kind, bl] body 254 k).set (2 + k) bb = FM.fill [kind, bl] body 254 (k + 1)) := Lib.hid (by rw [hbb]; exact FM.fill_set [kind, bl] body 254 k hlt (by omega) (2 + k) rfl)
      clear hbb hbk hcell
      go_wp2_with (with_reducible refine wpl_put (.tmp 44) (.tmp 43) rfl rfl HA.out (2 + k) (by omega) bb rfl rfl ?_; intro w7 D7 g7)
      rw [HF.out] at D7
      have P7 := HP.out.grown g7 (by omega)
      have b7 := HB.out.grown g7 HB.out.size (fun k e => by cases e; omega)
      clear g7
      go_roundw
      case rel => exact ⟨k + 1, by omega, by go_num, D7, P7, b7⟩
      case measure => simp [intOf]; omega
    · obtain rfl : k = body.length := by omega
      obtain ⟨X, hX⟩ : ∃ X, X = FM.rec252 kind body := ⟨_, rfl⟩
      obtain ⟨n, hn⟩ : ∃ n, n = CM.on 0 X := ⟨_, rfl⟩
      have hXL : X.length = 252 := hX ▸ FM.rec252_length kind body hlen
      rw [HBL0.out, FM.fill_rec kind body (numB 4 n) hlen, ← hX] at HA
      have hby := arr_bytes HA.out (n := 252) (X := X) (by simp [FM.fill, ← hXL]) hXL (by omega)
      have k1 : Calls Tryd.prog 20 #[.int .u32 0, .slice (some ⟨w.heap.size + 1, 0, none⟩) 252 256] wr fun e w' => e = .returned (.int .u32 (CM.on 0 X : Int)) ∧ wr = w' := ref_call 0 (by omega) _ X wr _ hby
      have hn4 : n < 4294967296 := hn ▸ CM.on_lt (by omega) X
      rw [← hn] at k1
      have hw4 : wid 4 = 4 := by decide
      have k2 := refnum_any 4 n (by omega)
      rw [hw4] at k2
      have HX := Lib.hid hX
      have HN := Lib.hid hn
      clear hX hn hby hw4
      go_wp2_with fail
      ((with_reducible refine k1.mono ?_); rintro e w' ⟨rfl, rfl⟩)
      go_wp2_with fail
      ((with_reducible refine (k2 _).mono ?_); rintro e w7 ⟨As, cs, rfl, O7, hb7⟩)
      have D7 := Lib.hid (HA.out.after hb7)
      have P7 := Lib.hid (HP.out.after hb7)
      have B7 := Lib.hid (HB.out.trans (hb7.mono HB.out.size))
      have hle := HA.out.lt
      have OO := Lib.hid O7
      clear HA HP HB hb7 O7 k1 k2
      obtain ⟨gb, hgb⟩ : ∃ gb, gb = wr.heap.size := ⟨_, rfl⟩
      rw [← hgb] at OO hle
      obtain ⟨gs, rfl, hgs1, _⟩ := OO.out.addr (by rw [numB_length]; omega)
      clear hgb hk hlt
      go_wp2_with fail
      go_loopw [9] (fun i w8 => ∃ k : Nat, k ≤ 4 ∧ i = .int .i64 k ∧ Arr w8 (w.heap.size + 1) (FM.fill X (numB 4 n) 4 k) ∧ PArr w8 w.heap.size pzeros ∧ Own 5 w8 gb (.slice (some ⟨gs, 0, none⟩) 4 cs) (numB 4 n) ∧ Below w.heap.size w w8) (fun i _ => 4 - (intOf i).toNat)
      case atStart => exact ⟨0, Nat.zero_le _, rfl, D7.out, P7.out, OO.out, B7.out⟩
      case round =>
        obtain ⟨k, hk, rfl, hA, hP, hO, hb⟩ := hrel
        clear D7 P7 OO B7
        have HA := Lib.hid hA
        have HP := Lib.hid hP
        have HO := Lib.hid hO
        have HB := Lib.hid hb
        clear hA hP hO hb
        by_cases hlt : k < 4
        · have hkl : k < (numB 4 n).length := by rw [numB_length]; exact hlt
          have hcell := HO.out.cell (List.getElem?_eq_getElem hkl)
          obtain ⟨sb, hsb⟩ : ∃ sb, sb = (numB 4 n)[k] := ⟨_, rfl⟩
          rw [← hsb] at hcell
          have HF : Hid ((FM.fill X (numB 4 n) 4 k).set (252 + k) sb = FM.fill X (numB 4 n) 4 (k + 1)) := Lib.hid (by rw [hsb]; exact FM.fill_set X (numB 4 n) 4 k hkl (by rw [numB_length]; omega) (252 + k) (by rw [hXL]))
          clear hsb hkl
          go_wp2_with (with_reducible refine wpl_put (.tmp 59) (.tmp 58) rfl rfl HA.out (252 + k) (by omega) sb rfl rfl ?_; intro w9 D9 g9)
          rw [HF.out] at D9
          have P9 := HP.out.grown g9 (by omega)
          have O9 := HO.out.kept g9 (.inr (fun e => by have : gs = w.heap.size + 1 := Option.some.inj e; omega))
          have b9 := HB.out.grown g9 HB.out.size (fun k e => by cases e; omega)
          clear g9
          go_roundw
          case rel => exact ⟨k + 1, by omega, by go_num, D9, P9, O9, b9⟩
          case measure => simp [intOf]; omega
        · obtain rfl : k = 4 := by omega
          rw [HN.out, HX.out, FM.fill_dat] at HA
          obtain ⟨D, hD⟩ : ∃ D, D = FM.dat kind body := ⟨_, rfl⟩
          rw [← hD] at HA
          have hDL : D.length = 256 := HA.out.2
          have HDD := Lib.hid hD
          obtain ⟨q, hq⟩ : ∃ q, q = HM.ck D := ⟨_, rfl⟩
          have hq2 : q < 8192 := hq ▸ HM.ck_lt D
          have k3 := refCheck_any D hDL
          rw [← hq] at k3
          have HQ := Lib.hid hq
          clear HO hD hq hlt hk
          go_wp2_with (with_reducible refine wpl_load (.tmp 6) rfl rfl HA.out rfl ?_)
          ((with_reducible refine (k3 _).mono ?_); rintro e w10 ⟨rfl, hb10⟩)
          have D10 := Lib.hid (HA.out.after hb10)
          have P10 := Lib.hid (HP.out.after hb10)
          have B10 := Lib.hid (HB.out.trans (hb10.mono HB.out.size))
          clear HA HP HB hb10 k3
          go_wp2_with (with_reducible refine wpl_pstore (.tmp 10) (.tmp 60) rfl rfl (PArr.new w10 pzeros_length) rfl pzeros_length rfl ?_; intro w11 R11 g11 e11)
          have hg10 : w.heap.size + 1 < w10.heap.size := D10.out.lt
          obtain ⟨gp, hgp⟩ : ∃ gp, gp = w10.heap.size := ⟨_, rfl⟩
          rw [← hgp] at R11 g11 hg10 ⊢
          have D11 := Lib.hid ((D10.out.alloc (.cells (cl pzeros) 26)).grown g11 (by omega))
          have P11 := Lib.hid ((P10.out.alloc (.cells (cl pzeros) 26)).grown g11 (by omega))
          have B11 := Lib.hid ((B10.out.alloc B10.out.size (.cells (cl pzeros) 26)).grown g11 (by rw [World.size_alloc]; omega) (fun k e => by cases e; omega))
          have R11' : PArr w11 gp (FM.fill [] D 258 0) := by rw [FM.fill_zero]; exact R11
          clear D10 P10 B10 g11 e11 R11 hgp
          have HR := Lib.hid R11'
          clear R11'
          go_loopw [12] (fun i w12 => ∃ k : Nat, k ≤ 256 ∧ i = .int .i64 k ∧ Arr w12 (w.heap.size + 1) D ∧ PArr w12 w.heap.size pzeros ∧ PArr w12 gp (FM.fill [] D 258 k) ∧ Below w.heap.size w w12) (fun i _ => 256 - (intOf i).toNat)
          case atStart => exact ⟨0, Nat.zero_le _, rfl, D11.out, P11.out, HR.out, B11.out⟩
          case round =>
            obtain ⟨k, hk, rfl, hA, hP, hR, hb⟩ := hrel
            clear D11 P11 HR B11
            have HA := Lib.hid hA
            have HP := Lib.hid hP
            have HR := Lib.hid hR
            have HB := Lib.hid hb
            clear hA hP hR hb
            by_cases hlt : k < 256
            · have hkl : k < D.length := by rw [hDL]; exact hlt
              have hcell := (HA.out.cell k).trans (cl_get hkl)
              obtain ⟨sb, hsb⟩ : ∃ sb, sb = D[k] := ⟨_, rfl⟩
              rw [← hsb] at hcell
              have HF : Hid ((FM.fill [] D 258 k).set k sb = FM.fill [] D 258 (k + 1)) := Lib.hid (by rw [hsb]; exact FM.fill_set [] D 258 k hkl (by rw [hDL]; omega) k (by simp))
              clear hsb hkl
              go_wp2_with (with_reducible refine wpl_pput (.tmp 71) (.tmp 70) rfl rfl HR.out k (by omega) sb rfl rfl ?_; intro w13 R13 g13)
              rw [HF.out] at R13
              have D13 := HA.out.grown g13 (by omega)
              have P13 := HP.out.grown g13 (by omega)
              have b13 := HB.out.grown g13 HB.out.size (fun k e => by cases e; omega)
              clear g13
              go_roundw
              case rel => exact ⟨k + 1, by omega, by go_num, D13, P13, R13, b13⟩
              case measure => simp [intOf]; omega
            · obtain rfl : k = 256 := by omega
              obtain ⟨qa, hqa⟩ : ∃ qa, qa = UInt8.ofNat q := ⟨_, rfl⟩
              obtain ⟨qb, hqb⟩ : ∃ qb, qb = UInt8.ofNat (q / 256) := ⟨_, rfl⟩
              have e1 : (q : Int) % 256 = ((qa.toNat : Nat) : Int) := by rw [hqa, UInt8.toNat_ofNat']; omega
              have e2 : (q : Int) / 256 = ((qb.toNat : Nat) : Int) := by rw [hqb, UInt8.toNat_ofNat']; omega
              have E1 := Lib.hid e1
              have E2 := Lib.hid e2
              have HPG : Hid (((FM.fill [] D 258 256).set 256 qa).set 257 qb = FM.page kind body) := Lib.hid (by
                rw [HDD.out, FM.fill_page kind body hlen, hqa, hqb, HQ.out, HDD.out]
                rfl)
              have hpl : (FM.page kind body).length = 258 := FM.page_length kind body hlen
              clear e1 e2 hqa hqb hlt hk
              go_wp2_with (first
                | (refine wpl_pput (.tmp 75) (.tmp 74) rfl rfl HR.out 256 (by omega) qa rfl (congrArg (Value.int .u8) E1.out) ?_; intro w13 R13 g13)
                | (refine wpl_pput (.tmp 79) (.tmp 78) rfl rfl R13 257 (by omega) qb rfl (congrArg (Value.int .u8) E2.out) ?_; intro w14 R14 g14; rw [HPG.out] at R14)
                | (with_reducible refine wpl_pload (.tmp 10) rfl rfl R14 rfl ?_)
                | (with_reducible refine wpl_pstore (.tmp 4) (.tmp 80) rfl rfl ((HP.out.grown g13 (by omega)).grown g14 (by omega)) rfl hpl rfl ?_; intro w15 R15 g15 e15))
              have b13 := HB.out.grown g13 HB.out.size (fun k e => by cases e; omega)
              have b14 := b13.grown g14 b13.size (fun k e => by cases e; omega)
              refine bodyPost_ret (pret2 rfl _ R15 rfl) rfl ?_
              exact ⟨rfl, b14.grown g15 b14.size (fun k e => by cases e; exact Nat.le_refl _)⟩
end Go.Proofs.YtnclefdlmbkjmaaDoor

/- The walk of FileApart: it answers true, and changes nothing that was there. No condition but that the arguments are there. -/
import Derived.Test.YtppodbijdhcclaaQFileParts
import Derived.Test.YtppodbijdhcclaaQOps20
namespace Go.Proofs.Ytppodbijdhcclaa
open Go Go.RowKit
/-- behind any call on another inode -/
def AnyR (w : World) (i : CI) (N : Nat) (F : FS) (e : Ending) (w' : World) : Prop := (∃ r : Int, e = .returned (.int .i64 r)) ∧ w.grownBy w' (some i.m) ∧ ∃ F' S', FAt w' i (N + 20) F' S' ∧ F'.five ∧ F' 5 = F 5
theorem anyR_same {w w' : World} {i : CI} {N : Nat} {F : FS} {S : Nat → Prop} {r : Int} {e : Ending} (h : FAt w i N F S) (h5 : F.five) (he : e = .returned (.int .i64 r) ∧ Below w.heap.size w w') : AnyR w i N F e w' :=
  ⟨⟨r, he.1⟩, only_of_below he.2 _, F, S, (h.after he.2).more (by omega), h5, rfl⟩
theorem anyR_put {w w' : World} {i : CI} {N : Nat} {F : FS} {S : Nat → Prop} {e : Ending} {z : Int} {x : FI} {y : Option FI} (h : FAt w i N F S) (h5 : F.five) (hx : F z = some x) (hz : z ≠ 5) (hr : PutR w i N F (F.put z y) S e w') : AnyR w i N F e w' := by
  rcases hr with ⟨_, h2, h3⟩ | ⟨_, h2, h3, S', h4, _⟩
  · exact anyR_same h h5 ⟨h2, h3⟩
  · exact ⟨⟨0, h2⟩, h3, _, S', h4, h5.put hx y, by unfold FS.put; rw [if_neg (fun e => hz e.symm)]⟩
theorem ftrunc_any (i : CI) (N : Nat) (F : FS) (S : Nat → Prop) (z t : Int) (w : World) (h : FAt w i N F S) (h5 : F.five) (hN : N ≤ 900000) (hz : z ≠ 5) :
    Calls Try.prog 32 #[.pointer (some ⟨i.q, 0, none⟩), .int .i64 z, .int .i64 t] w fun e w' => AnyR w i N F e w' := by
  cases hF : F z with
  | none => exact (ftrunc_none i N F S z t w h hF).mono fun e w' he => anyR_same h h5 he
  | some x =>
    cases x with
    | dir => exact (ftrunc_dir i N F S z t w h hF).mono fun e w' he => anyR_same h h5 he
    | file l =>
      by_cases h0 : t < 0
      · exact (ftrunc_arg i N F S z l t w h hF h0).mono fun e w' he => anyR_same h h5 he
      · by_cases h1 : 768 < t
        · exact (ftrunc_big i N F S z l t w h hF h1).mono fun e w' he => anyR_same h h5 he
        · obtain ⟨n, rfl⟩ : ∃ n : Nat, t = (n : Int) := ⟨t.toNat, by omega⟩
          by_cases h2 : n = l.length
          · exact (ftrunc_same i N F S z l (n : Int) w h hF (by omega) (by omega)).mono fun e w' he => anyR_same h h5 he
          · exact (ftrunc_file i N F S z l n w h hF hN (by omega) h2).mono fun e w' hr => anyR_put h h5 hF hz hr
theorem fremove_any (i : CI) (N : Nat) (F : FS) (S : Nat → Prop) (z : Int) (w : World) (h : FAt w i N F S) (h5 : F.five) (hN : N ≤ 900000) (hz : z ≠ 5) :
    Calls Try.prog 31 #[.pointer (some ⟨i.q, 0, none⟩), .int .i64 z] w fun e w' => AnyR w i N F e w' := by
  cases hF : F z with
  | none => exact (fremove_none i N F S z w h hF).mono fun e w' he => anyR_same h h5 he
  | some x => exact (fremove_some i N F S z x w h hF hN).mono fun e w' hr => anyR_put h h5 hF hz hr
theorem fwrite_any (i : CI) (N : Nat) (F : FS) (S : Nat → Prop) (z o : Int) (v : Value) (dl : List UInt8) (w : World) (h : FAt w i N F S) (h5 : F.five) (hN : N ≤ 900000) (hz : z ≠ 5) (hv : Bytes w w.heap.size v dl) (hd : dl.length ≤ 900) :
    Calls Try.prog 33 #[.pointer (some ⟨i.q, 0, none⟩), .int .i64 z, .int .i64 o, v] w fun e w' => AnyR w i N F e w' := by
  cases hF : F z with
  | none => exact (fwrite_none i N F S z o v w h hF).mono fun e w' he => anyR_same h h5 he
  | some x =>
    cases x with
    | dir => exact (fwrite_dir i N F S z o v w h hF).mono fun e w' he => anyR_same h h5 he
    | file l =>
      by_cases h0 : o < 0
      · exact (fwrite_arg i N F S z l o v w h hF h0).mono fun e w' he => anyR_same h h5 he
      · obtain ⟨A, c, rfl, _⟩ := id hv
        by_cases h1 : dl = []
        · subst h1
          exact (fwrite_nil i N F S z l o A c w h hF h0).mono fun e w' he => anyR_same h h5 he
        · have hpos : 0 < dl.length := by
            cases dl with
            | nil => exact absurd rfl h1
            | cons x r => simp
          by_cases h2 : 768 < o + (dl.length : Int)
          · exact (fwrite_big i N F S z l o A dl.length c w h hF h0 ⟨hpos, by omega⟩ h2).mono fun e w' he => anyR_same h h5 he
          · obtain ⟨n, rfl⟩ : ∃ n : Nat, o = (n : Int) := ⟨o.toNat, by omega⟩
            exact (fwrite_file i N F S z l dl n _ w h hF hN hv hpos (by omega)).mono fun e w' hr => anyR_put h h5 hF hz hr
/-- what Read of all of an inode tells -/
def rdC : Option FI → Int
  | none => 61
  | some .dir => 64
  | some (.file _) => 0
def rdL : Option FI → List UInt8
  | some (.file l) => l
  | _ => []
theorem fread_all (i : CI) (N : Nat) (F : FS) (S : Nat → Prop) (z : Int) (w : World) (h : FAt w i N F S) :
    Calls Try.prog 28 #[.pointer (some ⟨i.q, 0, none⟩), .int .i64 z, .int .i64 0, .int .i64 1000] w fun e w' => ∃ A c n, Hid ((rdL (F z)).length = n) ∧ e = .returned (.tuple #[.slice A n c, .int .i64 (rdC (F z))]) ∧ Own 5 w' w.heap.size (.slice A n c) (rdL (F z)) ∧ Below w.heap.size w w' := by
  cases hF : F z with
  | none =>
    refine (fread_none i N F S z 0 1000 w h hF).mono ?_
    rintro e w' ⟨rfl, b⟩
    exact ⟨none, 0, 0, Lib.hid rfl, rfl, Own.empty, b⟩
  | some x =>
    cases x with
    | dir =>
      refine (fread_dir i N F S z 0 1000 w h hF).mono ?_
      rintro e w' ⟨rfl, b⟩
      exact ⟨none, 0, 0, Lib.hid rfl, rfl, Own.empty, b⟩
    | file l =>
      have hl := (h.ok z _ hF).2 l rfl
      have := fread_file i N F S z l 0 1000 w h hF
      rw [show ((l.drop 0).take 1000) = l by rw [List.drop_zero]; exact List.take_of_length_le (by omega)] at this
      exact this
theorem own_low {e : TypeId} {w w' : World} {base q : Nat} {v : Value} {l : List UInt8} (h : Own e w base v l) (hg : w.grownBy w' (some q)) (hq : q < base) : Own e w' base v l := by
  refine Own.kept h hg ?_
  rcases hx : v.ownBlock with _ | x
  · exact .inl rfl
  · refine .inr fun e => ?_
    have := (World.ownsRow.lt h x hx).1
    cases e
    omega
theorem rdL_len {w : World} {i : CI} {N : Nat} {F : FS} {S : Nat → Prop} (h : FAt w i N F S) (z : Int) : (rdL (F z)).length ≤ maxLen := by
  have h1 : (rdL (F z)).length ≤ 768 := by
    cases hF : F z with
    | none => exact Nat.zero_le _
    | some x =>
      cases x with
      | dir => exact Nat.zero_le _
      | file l => exact (h.ok z _ hF).2 l rfl
  unfold maxLen
  omega
theorem and3 (z : Int) : ∃ k : Nat, bits .and .i64 z (3 : Int) = (k : Int) ∧ k ≤ 3 := by
  have := and_low z 2 3 rfl (by omega)
  rw [show ((3 : Nat) : Int) = 3 from rfl] at this
  exact ⟨_, this, by omega⟩
set_option maxRecDepth 100000 in
set_option maxHeartbeats 16000000 in
theorem fileApart_any (u v : Value) (w : World) (hu : ∃ zs : List Int, u = .agg (zs.map (Value.int .i64)).toArray ∧ zs.length = 4) (hv : ∃ os ls, Ops20 w w.heap.size v os ls) :
    Calls Try.prog 10 #[u, v] w fun e w' => e = .returned (.bool true) ∧ Below w.heap.size w w' := by
  obtain ⟨zs, rfl, hz⟩ := hu
  obtain ⟨os, ls, hv⟩ := hv
  obtain ⟨⟨A, c, rfl, hc, hm, _⟩, _⟩ := id hv
  have HV := Lib.hid hv
  have HZ := Lib.hid hz
  obtain ⟨n, hn⟩ : ∃ n, n = os.length := ⟨_, rfl⟩
  have HN := Lib.hid hn
  rw [← hn] at hc HV ⊢
  unfold maxLen at hm
  have b0 := (Below.refl w.heap.size w).alloc (Nat.le_refl _) (.cells (zs.map (Value.int .i64)).toArray 58)
  have T0 := Lib.hid b0
  have Z0 : Hid (Blk (w.alloc (.cells (zs.map (Value.int .i64)).toArray 58)) w.heap.size 58 (zs.map (Value.int .i64))) := Lib.hid (heap_alloc_new w _)
  have KS := Lib.hid (fspeaks_any (w.alloc (.cells (zs.map (Value.int .i64)).toArray 58)))
  have HZA : Hid ((zs.map (Value.int .i64)).length = 4) := Lib.hid (by rw [List.length_map]; exact hz)
  have aggA4 : ∀ w, (isAgg 58).run Try.prog w = .ok true w := fun _ => by kernel_rfl
  have sizeA4 : ∀ w, (sizeOf 58).run Try.prog w = .ok 4 w := fun _ => by kernel_rfl
  have HDA : Hid (((zs.map (Value.int .i64)).drop 0).take 4 = zs.map (Value.int .i64)) := Lib.hid (by rw [List.drop_zero]; exact List.take_of_length_le (Nat.le_of_eq HZA.out))
  have KL := Lib.hid (fun w => laid20_any zs 60 w hz)
  obtain ⟨F, hF⟩ : ∃ F, F = laidTo zs 4 := ⟨_, rfl⟩
  have H5 : Hid F.five := Lib.hid (by rw [hF]; exact laidTo_five _ 4 (Nat.le_refl _))
  rw [← hF] at KL
  clear hF hz hv hn b0
  by_cases h40 : 40 < n
  · have d1 : (40 : Int) < (n : Int) := by omega
    go_enter Try.func10, Try.ntmps10
    go_wp2_with (go_at_call 25; (with_reducible refine KS.out.mono ?_); rintro e w1 ⟨rfl, b1⟩; have T1 := Lib.hid (T0.out.trans (b1.mono T0.out.size)); clear b1)
    go_ret
    exact ⟨rfl, T1.out⟩
  · have d1 : ¬ (40 : Int) < (n : Int) := by omega
    go_enter Try.func10, Try.ntmps10
    go_upto_region 8 with (first
      | (go_at_call 25; (with_reducible refine KS.out.mono ?_); rintro e w1 ⟨rfl, b1⟩; have T1 := Lib.hid (T0.out.trans (b1.mono T0.out.size)); have Z1 := Lib.hid (Z0.out.after b1); clear b1)
      | (refine wpl_seg_load aggA4 sizeA4 (.tmp 2) rfl rfl Z1.out 0 (zs.map (Value.int .i64)) HDA.out HZA.out rfl ?_)
      | (go_at_call 26; (with_reducible refine (KL.out _).mono ?_); rintro e w2 ⟨q, m, s, d, rfl, C2', D2', S2', b2⟩; have C2 := Lib.hid C2'; have T2 := Lib.hid (T1.out.trans (b2.mono T1.out.size)); have HM : Hid (w.heap.size ≤ m) := Lib.hid (Nat.le_trans T1.out.size S2'.2.2.2.2.2.1); clear C2' D2' S2' b2 T1))
    clear KS KL
    have KR := Lib.hid (fread_all _ 0 F _ 5 w2 C2.out)
    have HYL : Hid ((rdL (F 5)).length ≤ maxLen) := Lib.hid (rdL_len C2.out 5)
    obtain ⟨Y, hY⟩ : ∃ Y, Y = rdL (F 5) := ⟨_, rfl⟩
    obtain ⟨ec, hec⟩ : ∃ ec, ec = rdC (F 5) := ⟨_, rfl⟩
    rw [← hY] at HYL
    rw [← hY, ← hec] at KR
    have HX := Lib.hid (And.intro hY hec)
    have HML := Lib.hid C2.out.lt
    clear hY hec
    go_upto_region 9 with (go_at_call 28; (with_reducible refine KR.out.mono ?_); rintro e w6 ⟨A6, c6, z6, hz6, rfl, P6, b6⟩; have HZ6 := Lib.hid hz6.out; have HP6 := Lib.hid (P6.below (Below.refl _ _)); have C6 := Lib.hid (C2.out.after b6); have T6 := Lib.hid (T2.out.trans (b6.mono T2.out.size)); clear hz6 P6 b6)
    clear KR C2 T2
    go_upto_region 10 with fail
    go_loopw [32] (fun at_ wr => ∃ (j : Nat) (G : FS) (S' : Nat → Prop), j ≤ n ∧ at_ = .int .i64 (j : Int) ∧ Hid (FAt wr _ (20 * j) G S') ∧ Hid G.five ∧ Hid (G 5 = F 5) ∧ Hid (Own 5 wr w2.heap.size (.slice A6 z6 c6) Y) ∧ Hid (Below w.heap.size w wr)) (fun at_ _ => n + 1 - (intOf at_).toNat)
    case atStart => exact ⟨0, F, _, by omega, by simp, C6, H5, Lib.hid rfl, HP6, T6⟩
    case round =>
      clear C6 T6 HP6
      obtain ⟨j, G, S', hj, rfl, hC, h5, hG, hP, hT⟩ := hrel
      by_cases hlt : j < n
      · obtain ⟨x, hx⟩ : ∃ x, os[j]? = some x := ⟨_, List.getElem?_eq_getElem (by rw [← HN.out]; exact hlt)⟩
        have hv := HV.out.below hT.out
        obtain ⟨a, rfl, hab, hck⟩ := hv.elem hx
        have hby := (hv.2.1.2 j x hx).more hT.out.size
        obtain ⟨xk, xi, xf, xn, xA, xm, xc⟩ := x
        obtain ⟨l, hl⟩ : ∃ l, l = ls.getD j [] := ⟨_, rfl⟩
        simp only at hby
        rw [← hl] at hby
        have hlm : Hid (xm = l.length) := Lib.hid (by obtain ⟨_, _, e, _⟩ := hby; exact (Value.slice.inj e).2.1)
        have HCK := Lib.hid (show ∀ i u, ([.int .i64 xk, .int .i64 xi, .int .i64 xf, .int .i64 xn, .slice xA xm xc] : List Value)[i]? = some u → wr.cell? ((a.add (j * 5)).add i) = some u from hck)
        have B2 := Lib.hid ((Below.refl wr.heap.size wr).alloc (Nat.le_refl _) (.cells #[.int .i64 xk, .int .i64 xi, .int .i64 xf, .int .i64 xn, .slice xA xm xc] 63))
        have X2 : Hid (Blk (wr.alloc (.cells #[.int .i64 xk, .int .i64 xi, .int .i64 xf, .int .i64 xn, .slice xA xm xc] 63)) wr.heap.size 63 [.int .i64 xk, .int .i64 xi, .int .i64 xf, .int .i64 xn, .slice xA xm xc]) := Lib.hid (heap_alloc_new wr _)
        have hC2 := Lib.hid (hC.out.after B2.out)
        have hP2 := Lib.hid (hP.out.below B2.out)
        have hT2 := Lib.hid (hT.out.trans (B2.out.mono hT.out.size))
        have hby2 := Lib.hid ((hby.below B2.out).more B2.out.size)
        clear hck hx hl hC hP hT B2 hby hv
        have g0 : (j : Int) < (n : Int) := by omega
        go_upto_region 12 with (with_reducible refine wpl_cells (q := a.add (j * 5)) (row := [.int .i64 xk, .int .i64 xi, .int .i64 xf, .int .i64 xn, .slice xA xm xc]) aggO sizeO (.tmp 34) rfl rfl rfl rfl HCK.out ?_)
        have x0 : (wr.alloc (.cells #[.int .i64 xk, .int .i64 xi, .int .i64 xf, .int .i64 xn, .slice xA xm xc] 63)).cell? ⟨wr.heap.size, 0, none⟩ = some (.int .i64 xk) := X2.out.cell 0
        have x1 : (wr.alloc (.cells #[.int .i64 xk, .int .i64 xi, .int .i64 xf, .int .i64 xn, .slice xA xm xc] 63)).cell? ⟨wr.heap.size, 1, none⟩ = some (.int .i64 xi) := X2.out.cell 1
        have x2 : (wr.alloc (.cells #[.int .i64 xk, .int .i64 xi, .int .i64 xf, .int .i64 xn, .slice xA xm xc] 63)).cell? ⟨wr.heap.size, 2, none⟩ = some (.int .i64 xf) := X2.out.cell 2
        have x3 : (wr.alloc (.cells #[.int .i64 xk, .int .i64 xi, .int .i64 xf, .int .i64 xn, .slice xA xm xc] 63)).cell? ⟨wr.heap.size, 3, none⟩ = some (.int .i64 xn) := X2.out.cell 3
        have x4 : (wr.alloc (.cells #[.int .i64 xk, .int .i64 xi, .int .i64 xf, .int .i64 xn, .slice xA xm xc] 63)).cell? ⟨wr.heap.size, 4, none⟩ = some (.slice xA xm xc) := X2.out.cell 4
        obtain ⟨W2, hW2⟩ : ∃ W2, W2 = wr.alloc (.cells #[.int .i64 xk, .int .i64 xi, .int .i64 xf, .int .i64 xn, .slice xA xm xc] 63) := ⟨_, rfl⟩
        rw [← hW2] at x0 x1 x2 x3 x4 hC2 hP2 hT2 hby2 ⊢
        clear hW2 HCK X2
        by_cases hbig : 900 < xm
        · have d5 : (900 : Int) < (xm : Int) := by omega
          go_wp2_with fail
          go_ret
          exact ⟨rfl, hT2.out⟩
        · have d5 : ¬ (900 : Int) < (xm : Int) := by omega
          by_cases h5x : xi = 5
          · subst h5x
            go_wp2_with fail
            exact ⟨⟨j + 1, G, S', by omega, by go_num, Lib.hid (hC2.out.more (by omega)), h5, hG, hP2, hT2⟩, by simp [intOf] <;> omega⟩
          · obtain ⟨k3, hk3, hk4⟩ := and3 xk
            have KT := Lib.hid (ftrunc_any _ (20 * j) G S' xi xn W2 hC2.out h5.out (by omega) h5x)
            have KM := Lib.hid (fremove_any _ (20 * j) G S' xi W2 hC2.out h5.out (by omega) h5x)
            have KW := Lib.hid (fwrite_any _ (20 * j) G S' xi xf (.slice xA xm xc) l W2 hC2.out h5.out (by omega) h5x hby2.out (by have := hlm.out; omega))
            have NXT : Hid (∀ w9 : World, W2.grownBy w9 (some m) → (∃ F' S'', FAt w9 ⟨q, m, s, bsN F.nat, thN F.nat, 60⟩ (20 * j + 20) F' S'' ∧ F'.five ∧ F' 5 = G 5) → ∃ F' S'', Hid (FAt w9 ⟨q, m, s, bsN F.nat, thN F.nat, 60⟩ (20 * (j + 1)) F' S'') ∧ Hid F'.five ∧ Hid (F' 5 = F 5) ∧ Hid (Own 5 w9 w2.heap.size (.slice A6 z6 c6) Y) ∧ Hid (Below w.heap.size w w9)) := Lib.hid (fun w9 g9 ⟨F', S'', c9, f9, e9⟩ => ⟨F', S'', Lib.hid (c9.more (by omega)), Lib.hid f9, Lib.hid (e9.trans hG.out), Lib.hid (own_low hP2.out g9 HML.out.2.1), Lib.hid (hT2.out.grown g9 hT2.out.size (fun b e => by cases e; exact HM.out))⟩)
            clear hC2 hP2 hT2 hby2 hlm
            rcases Nat.lt_or_ge k3 1 with h | h
            · obtain rfl : k3 = 0 := by omega
              rw [show ((0 : Nat) : Int) = 0 from rfl] at hk3
              clear KM KW
              go_wp2_with (go_at_call 32; (with_reducible refine KT.out.mono ?_); rintro e w9 ⟨⟨r9, rfl⟩, g9, n9⟩; obtain ⟨F', S'', N9⟩ := NXT.out w9 g9 n9; clear NXT KT g9 n9)
              exact ⟨⟨j + 1, F', S'', by omega, by go_num, N9⟩, by simp [intOf] <;> omega⟩
            · rcases Nat.lt_or_ge k3 2 with h | h
              · obtain rfl : k3 = 1 := by omega
                rw [show ((1 : Nat) : Int) = 1 from rfl] at hk3
                clear KT KW
                go_wp2_with (go_at_call 31; (with_reducible refine KM.out.mono ?_); rintro e w9 ⟨⟨r9, rfl⟩, g9, n9⟩; obtain ⟨F', S'', N9⟩ := NXT.out w9 g9 n9; clear NXT KM g9 n9)
                exact ⟨⟨j + 1, F', S'', by omega, by go_num, N9⟩, by simp [intOf] <;> omega⟩
              · have e0 : ¬ (k3 : Int) = 0 := by omega
                have e1 : ¬ (k3 : Int) = 1 := by omega
                clear KT KM
                go_wp2_with (go_at_call 33; (with_reducible refine KW.out.mono ?_); rintro e w9 ⟨⟨r9, rfl⟩, g9, n9⟩; obtain ⟨F', S'', N9⟩ := NXT.out w9 g9 n9; clear NXT KW g9 n9)
                exact ⟨⟨j + 1, F', S'', by omega, by go_num, N9⟩, by simp [intOf] <;> omega⟩
      · obtain rfl : j = n := by omega
        have g0 : ¬ (j : Int) < (j : Int) := by omega
        have KR2 := Lib.hid (fread_all _ (20 * j) G _ 5 wr hC.out)
        rw [hG.out, ← HX.out.1, ← HX.out.2] at KR2
        clear hG HV
        go_upto_region 23 with (go_at_call 28; (with_reducible refine KR2.out.mono ?_); rintro e w7 ⟨A7, c7, z7, hz7, rfl, P7, b7⟩; obtain rfl : z7 = z6 := hz7.out.symm.trans HZ6.out; have Q6 := Lib.hid ((hP.out.below b7).bytes HYL.out); have Q7 := Lib.hid (P7.bytes HYL.out); have T7 := Lib.hid (hT.out.trans (b7.mono hT.out.size)); clear hz7 P7 b7 KR2 hP hT hC)
        have hq1 := run_str (w := w7) (st := 9) byteTys Try.underlying5 Try.underlying9 (show Bytes w7 w7.heap.size (.slice A6 z7 c6) Y from Q6.out)
        have hq2 := run_str (w := w7) (st := 9) byteTys Try.underlying5 Try.underlying9 (show Bytes w7 w7.heap.size (.slice A7 z7 c7) Y from Q7.out)
        go_wp2_with fail
        go_ret
        exact ⟨rfl, T7.out⟩
end Go.Proofs.Ytppodbijdhcclaa


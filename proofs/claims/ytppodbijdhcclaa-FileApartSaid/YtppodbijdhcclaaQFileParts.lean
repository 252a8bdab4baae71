/- The walk of FileParts: it answers true, and changes nothing that was there. No condition but that the arguments are there. -/
import Derived.Test.YtppodbijdhcclaaQFileBack
import Derived.Test.YtppodbijdhcclaaQLiveJ
import Derived.Test.YtppodbijdhcclaaQInoRefD
namespace Go.Proofs.Ytppodbijdhcclaa
open Go Go.RowKit
/-- Write where there is room, of nothing too; which blocks hold the bodies then -/
theorem fwrite_five2 (i : CI) (N : Nat) (F : FS) (S : Nat → Prop) (n : Int) (l dl : List UInt8) (o : Nat) (v : Value) (w : World) (h : FAt w i N F S) (hF : F n = some (.file l)) (h5 : F.five) (hm : i.mo = 60) (hN : N ≤ 900000) (hv : Bytes w w.heap.size v dl) (hb : o + dl.length ≤ 768) :
    Calls Try.prog 33 #[.pointer (some ⟨i.q, 0, none⟩), .int .i64 n, .int .i64 (o : Int), v] w fun e w' => e = .returned (.int .i64 0) ∧ w.grownBy w' (some i.m) ∧ ∃ S', FAt w' i (N + 20) (F.put n (some (.file (backL l o dl)))) S' ∧ ∀ b, S' b → S b ∨ w.heap.size ≤ b := by
  unfold backL
  by_cases hd : dl = []
  · subst hd
    rw [if_pos rfl]
    obtain ⟨A, c, rfl, _⟩ := id hv
    refine (fwrite_nil i N F S n l (o : Int) A c w h hF (by omega)).mono ?_
    rintro e w' ⟨rfl, b⟩
    refine ⟨rfl, only_of_below b _, S, ?_, fun b hb => .inl hb⟩
    rw [FS.put_self hF]
    exact (h.after b).more (by omega)
  · rw [if_neg hd]
    have hpos : 0 < dl.length := by
      cases dl with
      | nil => exact absurd rfl hd
      | cons x r => simp
    refine (fwrite_file i N F S n l dl o v w h hF hN hv hpos hb).mono ?_
    rintro e w' hr
    obtain ⟨h1, h2, S', h3, h4⟩ := hr.ok (by rw [hm]; exact (h5.put hF _).room)
    exact ⟨h1, h2, S', h3, h4⟩
/-- a part more -/
theorem backL_more (l : List UInt8) (o : Nat) (dl : List UInt8) (p k : Nat) (hk : p + k ≤ dl.length) : backL (backL l o (dl.take p)) (o + p) ((dl.drop p).take k) = backL l o (dl.take (p + k)) := by
  have e1 : (dl.take p).length = p := by rw [List.length_take]; omega
  have e2 : ((dl.drop p).take k).length = k := by rw [List.length_take, List.length_drop]; omega
  have e3 : (dl.take (p + k)).length = p + k := by rw [List.length_take]; omega
  have hlen : (backL (backL l o (dl.take p)) (o + p) ((dl.drop p).take k)).length = (backL l o (dl.take (p + k))).length := by
    rw [backL_len, backL_len, backL_len, e1, e2, e3]
    repeat' split
    all_goals omega
  refine List.ext_getElem hlen (fun b h1 h2 => ?_)
  have g1 := backL_get (backL l o (dl.take p)) (o + p) ((dl.drop p).take k) b
  have g2 := backL_get l o (dl.take p) b
  have g3 := backL_get l o (dl.take (p + k)) b
  rw [show (backL (backL l o (dl.take p)) (o + p) ((dl.drop p).take k)).getD b 0 = (backL (backL l o (dl.take p)) (o + p) ((dl.drop p).take k))[b] by rw [List.getD_eq_getElem?_getD, List.getElem?_eq_getElem h1]; rfl] at g1
  rw [show (backL l o (dl.take (p + k))).getD b 0 = (backL l o (dl.take (p + k)))[b] by rw [List.getD_eq_getElem?_getD, List.getElem?_eq_getElem h2]; rfl] at g3
  rw [g1, g3, g2, e1, e2, e3]
  by_cases c1 : o + p ≤ b ∧ b < o + p + k
  · rw [if_pos c1, if_pos (by omega), List.getD_eq_getElem?_getD, List.getD_eq_getElem?_getD, List.getElem?_take, if_pos (by omega), List.getElem?_drop, List.getElem?_take, if_pos (by omega), show p + (b - (o + p)) = b - o by omega]
  · rw [if_neg c1]
    by_cases c2 : o ≤ b ∧ b < o + p
    · rw [if_pos c2, if_pos (by omega), List.getD_eq_getElem?_getD, List.getD_eq_getElem?_getD, List.getElem?_take, if_pos (by omega), List.getElem?_take, if_pos (by omega)]
    · rw [if_neg c2, if_neg (by omega)]
theorem backL_nil (l : List UInt8) (o : Nat) : backL l o [] = l := by unfold backL; rw [if_pos rfl]
theorem and16' (z : Int) : ∃ k : Nat, bits .and .i64 z (65535 : Int) = (k : Int) ∧ k ≤ 65535 := by
  have := and_low z 16 65535 rfl (by omega)
  rw [show ((65535 : Nat) : Int) = 65535 from rfl] at this
  exact ⟨_, this, by omega⟩
/-- Live of a cache that tells inodes -/
theorem live_fat (i : CI) (N : Nat) (F : FS) (S : Nat → Prop) (w : World) (h : FAt w i N F S) :
    Calls Try.prog 23 #[.pointer (some ⟨i.q, 0, none⟩)] w fun e w' => ∃ M, M.length = 32 ∧ e = .returned (.agg (cl M)) ∧ (∀ z, lhas M z = (F.node z).isSome) ∧ Below w.heap.size w w' := by
  obtain ⟨P, h1, h2, h3, h4, h5⟩ := h
  refine (live_cat i N P S w h1).mono ?_
  rintro e w' ⟨M, a, b, c, d⟩
  exact ⟨M, a, b, fun z => by rw [c z, ← get_live, h4], d⟩
theorem Bytes.take {w : World} {B n c : Nat} {A : Option Addr} {l : List UInt8} (h : Bytes w B (.slice A n c) l) (k : Nat) (hk : k ≤ l.length) (hc : k ≤ c) : Bytes w B (.slice A k c) (l.take k) := by
  obtain ⟨A', c', e, _, hm, hr⟩ := h
  obtain ⟨rfl, _, rfl⟩ := Value.slice.inj e
  refine ⟨A, c, by rw [List.length_take, Nat.min_eq_left hk], by rw [List.length_take]; omega, hm, fun j u hu => ?_⟩
  unfold bv at hu
  rw [List.map_take, List.getElem?_take] at hu
  split at hu
  · exact hr j u hu
  · cases hu
theorem drewN_below {B : Nat} {w w' : World} (h : Below B w w') : ∀ n, Below B w (w'.drewN n)
  | 0 => h
  | n + 1 => (drewN_below h n).drew
theorem bytes_kept {w w' : World} {B g : Nat} {v : Value} {l : List UInt8} (h : Bytes w B v l) (hg : w.grownBy w' (some g)) (hb : B ≤ g) : Bytes w' B v l := by
  obtain ⟨A, c, e, h1, h2, hr⟩ := h
  refine ⟨A, c, e, h1, h2, fun j u hu => ?_⟩
  obtain ⟨a, ha, hlt, hc⟩ := hr j u hu
  exact ⟨a, ha, hlt, hg.cell hc (by rw [add_block]; intro e; cases e; omega)⟩
theorem put_put (F : FS) (n : Int) (x y : Option FI) : (F.put n x).put n y = F.put n y := funext (fun z => by
  unfold FS.put
  split <;> rfl)
set_option maxRecDepth 100000 in
set_option maxHeartbeats 16000000 in
theorem fileParts_any (v u : Value) (off : Int) (w : World) (hv : ∃ dl, Bytes w w.heap.size v dl) (hu : ∃ zs, Nums w w.heap.size .i64 u zs) (_ : (Lit.int .i64 off).wf = true) :
    Calls Try.prog 9 #[v, u, .int .i64 off] w fun e w' => e = .returned (.bool true) ∧ Below w.heap.size w w' := by
  obtain ⟨dl, hv⟩ := hv
  obtain ⟨zs, hu⟩ := hu
  obtain ⟨DA, DC, rfl, hdc, hdm, _⟩ := id hv
  obtain ⟨ZA, ZC, rfl, hzc, hzm, _⟩ := id hu
  have HV := Lib.hid hv
  have HU := Lib.hid hu
  have HRZ : Hid (Row w w.heap.size ZA (zs.map (Value.int .i64))) := Lib.hid (by obtain ⟨A', c', e, _, _, h, _⟩ := hu; obtain ⟨rfl, _, _⟩ := Value.slice.inj e; exact h)
  have KS := Lib.hid (fspeaks_any w)
  obtain ⟨n, hn⟩ : ∃ n, n = dl.length := ⟨_, rfl⟩
  have HN := Lib.hid hn
  rw [← hn] at hdc HV ⊢
  obtain ⟨z, hz⟩ : ∃ z, z = zs.length := ⟨_, rfl⟩
  have HZ := Lib.hid hz
  rw [← hz] at hzc HU ⊢
  unfold maxLen at hdm hzm
  clear hv hu hn hz
  by_cases hbig : 600 < n ∨ 20 < z ∨ off < 0 ∨ 100 < off
  · have hor : ∀ (a b c d : Bool), (a = true ∨ b = true ∨ c = true ∨ d = true) → (((a || b) || c) || d) = true := by decide
    have d0 := hor (decide ((600 : Int) < (n : Int))) (decide ((20 : Int) < (z : Int))) (decide (off < 0)) (decide ((100 : Int) < off)) (by simp only [decide_eq_true_eq]; omega)
    go_enter Try.func9, Try.ntmps9
    go_wp2_with (go_at_call 25; (with_reducible refine KS.out.mono ?_); rintro e w1 ⟨rfl, b1⟩; have T1 := Lib.hid b1; clear b1)
    all_goals
      go_ret
      exact ⟨rfl, T1.out⟩
  · have h600 : n ≤ 600 := by omega
    have h20 : z ≤ 20 := by omega
    obtain ⟨o, rfl⟩ : ∃ o : Nat, off = (o : Int) := ⟨off.toNat, by omega⟩
    have h100 : o ≤ 100 := by omega
    have d1 : ¬ (600 : Int) < (n : Int) := by omega
    have d2 : ¬ (20 : Int) < (z : Int) := by omega
    have d3 : ¬ ((o : Int) < 0) := by omega
    have d4 : ¬ ((100 : Int) < (o : Int)) := by omega
    clear hbig
    have KL := Lib.hid (fun w => laid20_any [50, 0, 0, 0] 60 w rfl)
    obtain ⟨F, hF⟩ : ∃ F, F = laidTo [50, 0, 0, 0] 4 := ⟨_, rfl⟩
    obtain ⟨l, hl⟩ : ∃ l, l = dataL 50 0 := ⟨_, rfl⟩
    have HF2 : Hid (F 2 = some (.file l)) := Lib.hid (by rw [hF, hl, laid_two, if_pos (by decide)]; rfl)
    have HLL : Hid (l.length = 50) := Lib.hid (by rw [hl, dataL_len])
    have H5 : Hid F.five := Lib.hid (by rw [hF]; exact laidTo_five _ 4 (Nat.le_refl _))
    rw [← hF] at KL
    clear hF hl
    simp only [List.map_cons, List.map_nil] at KL
    go_enter Try.func9, Try.ntmps9
    go_upto_region 6 with (first
      | (go_at_call 25; (with_reducible refine KS.out.mono ?_); rintro e w1 ⟨rfl, b1⟩; have T1 := Lib.hid b1; clear b1)
      | (go_at_call 26; (with_reducible refine (KL.out _).mono ?_); rintro e w2 ⟨qa, ma, sa, da, rfl, C2', D2', S2', b2⟩; have CA2 := Lib.hid C2'; have T2 := Lib.hid (T1.out.trans (b2.mono T1.out.size)); have HMA : Hid (w.heap.size ≤ ma) := Lib.hid (Nat.le_trans T1.out.size S2'.2.2.2.2.2.1); clear C2' D2' S2' b2 T1))
    go_upto_region 7 with (go_at_call 26; (with_reducible refine (KL.out _).mono ?_); rintro e w3 ⟨qb, mb, sb, db, rfl, C3', D3', S3', b3⟩; have CB3 := Lib.hid C3'; have CA3 := Lib.hid (CA2.out.after b3); have T3 := Lib.hid (T2.out.trans (b3.mono T2.out.size)); have HMB : Hid (w.heap.size ≤ mb) := Lib.hid (Nat.le_trans T2.out.size S3'.2.2.2.2.2.1); have DIS : Hid (w2.heap.size ≤ qb ∧ w2.heap.size ≤ mb ∧ w2.heap.size ≤ sb) := Lib.hid ⟨S3'.2.2.2.2.1, S3'.2.2.2.2.2.1, S3'.2.2.2.2.2.2⟩; have LA : Hid (qa < w2.heap.size ∧ ma < w2.heap.size ∧ sa < w2.heap.size) := Lib.hid ⟨CA2.out.lt.1, CA2.out.lt.2.1, CA2.out.lt.2.2.1⟩; clear C3' D3' S3' b3)
    clear KS KL CA2 T2
    have HV3 := Lib.hid ((HV.out.below T3.out).more T3.out.size)
    have KA := Lib.hid (fwrite_five2 ⟨qa, ma, sa, bsN F.nat, thN F.nat, 60⟩ 0 F _ 2 l dl o (.slice DA n DC) w3 CA3.out HF2.out H5.out rfl (by omega) HV3.out (by rw [← HN.out]; omega))
    obtain ⟨X, hX⟩ : ∃ X, X = backL l o dl := ⟨_, rfl⟩
    have HX := Lib.hid hX
    rw [← hX] at KA
    obtain ⟨G, hG⟩ : ∃ G, G = F.put 2 (some (.file X)) := ⟨_, rfl⟩
    have HG := Lib.hid hG
    rw [← hG] at KA
    have W3 := Lib.hid (show w2.heap.size ≤ w3.heap.size ∧ qb < w3.heap.size ∧ mb < w3.heap.size ∧ sb < w3.heap.size from ⟨by have := DIS.out; have := CB3.out.lt.1; simp only at this; omega, CB3.out.lt.1, CB3.out.lt.2.1, CB3.out.lt.2.2.1⟩)
    have FB : Hid (CI.free ⟨qb, mb, sb, bsN F.nat, thN F.nat, 60⟩ (fun _ => False) ma) := Lib.hid ⟨by have := DIS.out; have := LA.out; show qb ≠ ma; omega, by have := DIS.out; have := LA.out; show sb ≠ ma; omega, by have := DIS.out; have := LA.out; show mb ≠ ma; omega, fun h => h⟩
    clear hX hG
    go_upto_region 9 with (go_at_call 33; (with_reducible refine KA.out.mono ?_); rintro e w4 ⟨rfl, g4, SA, C4', hSA⟩; have CA4 := Lib.hid C4'; have CB4 := Lib.hid (CB3.out.other g4 FB.out); have T4 := Lib.hid (T3.out.grown g4 T3.out.size (fun k e => by cases e; exact HMA.out)); have FA : Hid (CI.free ⟨qa, ma, sa, bsN F.nat, thN F.nat, 60⟩ SA mb) := Lib.hid ⟨by have := DIS.out; have := LA.out; show qa ≠ mb; omega, by have := DIS.out; have := LA.out; show sa ≠ mb; omega, by have := DIS.out; have := LA.out; show ma ≠ mb; omega, fun h => (hSA mb h).elim id (fun h2 => by have := W3.out; omega)⟩; clear g4 C4' hSA KA)
    clear CA3 CB3 T3 HV3
    have HV4 := Lib.hid (HV.out.below T4.out)
    go_upto_region 11 with fail
    go_loopw [11, 12, 13] (fun at_ rest cnt wr => ∃ (c p : Nat) (RA : Option Addr) (RC : Nat) (SB : Nat → Prop), c ≤ z + 1 ∧ p ≤ n ∧ (c = z + 1 → p = n) ∧ at_ = .int .i64 ((o + p : Nat) : Int) ∧ rest = .slice RA (n - p) RC ∧ cnt = .int .i64 (c : Int) ∧ Hid (Bytes wr w.heap.size (.slice RA (n - p) RC) (dl.drop p)) ∧ Hid (FAt wr ⟨qb, mb, sb, bsN F.nat, thN F.nat, 60⟩ (20 * c) (F.put 2 (some (.file (backL l o (dl.take p))))) SB) ∧ Hid (FAt wr ⟨qa, ma, sa, bsN F.nat, thN F.nat, 60⟩ (0 + 20) G SA) ∧ Hid (Below w.heap.size w wr)) (fun _ _ cnt _ => z + 2 - (intOf cnt).toNat)
    case atStart => exact ⟨0, 0, DA, DC, _, by omega, by omega, fun h => by omega, by simp, by simp, rfl, by rw [List.drop_zero]; exact HV4, Lib.hid (by rw [List.take_zero, backL_nil, FS.put_self HF2.out]; exact CB4.out), CA4, T4⟩
    case round =>
      clear CA4 CB4 T4 HV4
      obtain ⟨c, p, RA, RC, SB, hc, hp, hcp, rfl, rfl, rfl, hR, hB, hA, hT⟩ := hrel
      obtain ⟨r, hr⟩ : ∃ r, r = n - p := ⟨_, rfl⟩
      have HR := Lib.hid hr
      rw [← hr] at hR ⊢
      obtain ⟨at_, hat⟩ : ∃ a, a = o + p := ⟨_, rfl⟩
      have HAT := Lib.hid hat
      rw [← hat]
      clear hr hat
      by_cases hr0 : 0 < r
      · have hcz : c ≤ z := by have := HR.out; omega
        obtain ⟨ra, rfl⟩ : ∃ ra, RA = some ra := by
          obtain ⟨A', c', e, _, _, h⟩ := hR.out
          obtain ⟨rfl, e2, _⟩ := Value.slice.inj e
          obtain ⟨a, e3, _⟩ := h 0 _ (List.getElem?_eq_getElem (l := bv (dl.drop p)) (by rw [bv_length, ← e2]; exact hr0))
          exact ⟨a, e3⟩
        have hRC : r ≤ RC := by
          obtain ⟨A', c', e, h, _⟩ := hR.out
          obtain ⟨_, e2, e3⟩ := Value.slice.inj e
          omega
        have hRL : Hid ((dl.drop p).length = r) := Lib.hid (by rw [List.length_drop, HR.out, HN.out])
        have q0 : ¬ RC = 0 := by omega
        have g0 : (0 : Int) < (r : Int) := by omega
        by_cases hcz2 : c < z
        · obtain ⟨y, hy⟩ : ∃ y, zs[c]? = some y := ⟨_, List.getElem?_eq_getElem (by rw [← HZ.out]; exact hcz2)⟩
          obtain ⟨t, ht, htl⟩ := and16' y
          obtain ⟨za, rfl, _, c1⟩ := (HRZ.out.below hT.out) c (.int .i64 y) (by rw [List.getElem?_map, hy]; rfl)
          obtain ⟨k, hkd⟩ : ∃ k, k = t % (r + 1) := ⟨_, rfl⟩
          have hk : k ≤ r := by have := Nat.mod_lt t (show 0 < r + 1 by omega); omega
          have hr6 : r ≤ 600 := by have := HR.out; omega
          have rk : (t : Int) % ((r : Int) + 1) = (k : Int) := by rw [hkd]; simp
          clear hkd hy
          have e1 : ((dl.drop p).take k).length = k := by rw [List.length_take, hRL.out]; omega
          have HB1 : Hid (Bytes wr wr.heap.size (.slice (some ra) k RC) ((dl.drop p).take k)) := Lib.hid (by
            have h1 := (hR.out.more hT.out.size).take k (by rw [hRL.out]; exact hk) (by omega)
            exact h1)
          have KW := Lib.hid (fwrite_five2 ⟨qb, mb, sb, bsN F.nat, thN F.nat, 60⟩ (20 * c) _ SB 2 (backL l o (dl.take p)) ((dl.drop p).take k) at_ (.slice (some ra) k RC) wr hB.out (by unfold FS.put; rw [if_pos rfl]) (H5.out.put HF2.out _) rfl (by omega) HB1.out (by rw [e1]; have := HAT.out; have := HR.out; omega))
          rw [put_put] at KW
          have hmore : backL (backL l o (dl.take p)) at_ ((dl.drop p).take k) = backL l o (dl.take (p + k)) := by rw [HAT.out]; exact backL_more l o dl p k (by rw [← HN.out]; have := HR.out; omega)
          rw [hmore] at KW
          have FAw := FA
          go_upto_region 18 with (go_at_call 33; (with_reducible refine KW.out.mono ?_); rintro e w5 ⟨rfl, g5, SB5, C5', _⟩; have CB5 := Lib.hid C5'; have CA5 := Lib.hid (hA.out.other g5 FA.out); have T5 := Lib.hid (hT.out.grown g5 hT.out.size (fun k e => by cases e; exact HMB.out)); have R5 : Hid (Bytes w5 w.heap.size (.slice (some ra) r RC) (dl.drop p)) := Lib.hid (bytes_kept hR.out g5 HMB.out); clear g5 C5' KW)
          have e5 : (k : Int) ≤ (r : Int) := by omega
          have hat6 : at_ ≤ 800 := by have := HAT.out; omega
          by_cases hRk : RC = k
          · subst hRk
            have hrk : r = RC := by omega
            have NXT : Hid (Bytes w5 w.heap.size (.slice (some ra) (n - (p + RC)) (RC - RC)) (dl.drop (p + RC))) := Lib.hid (by
              have h1 := bytes_part2 R5.out RC (r - RC) (by rw [hRL.out]; omega) (by omega) (some ra) (if_pos rfl)
              have h2 : ((dl.drop p).drop RC).take (r - RC) = dl.drop (p + RC) := by rw [List.drop_drop]; exact List.take_of_length_le (by rw [List.length_drop]; have := HR.out; have := HN.out; omega)
              rw [h2] at h1
              rwa [show n - (p + RC) = r - RC by have := HR.out; omega])
            go_quiet (fail)
            rename_i nq
            go_wp2_with fail
            exact ⟨⟨c + 1, p + RC, some ra, RC - RC, SB5, by omega, by have := HR.out; omega, fun h => by omega, by rw [HAT.out]; go_num, by rw [show n - (p + RC) = r - RC by have := HR.out; omega]; simp; omega, by go_num, NXT, Lib.hid (CB5.out.more (by omega)), CA5, Lib.hid (drewN_below T5.out nq)⟩, by simp [intOf]; omega⟩
          · have NXT : Hid (Bytes w5 w.heap.size (.slice (some (ra.add k)) (n - (p + k)) (RC - k)) (dl.drop (p + k))) := Lib.hid (by
              have h1 := bytes_part2 R5.out k (r - k) (by rw [hRL.out]; omega) (by omega) (some (ra.add k)) (if_neg hRk)
              have h2 : ((dl.drop p).drop k).take (r - k) = dl.drop (p + k) := by rw [List.drop_drop]; exact List.take_of_length_le (by rw [List.length_drop]; have := HR.out; have := HN.out; omega)
              rw [h2] at h1
              rwa [show n - (p + k) = r - k by have := HR.out; omega])
            go_quiet (fail)
            rename_i nq
            go_wp2_with fail
            exact ⟨⟨c + 1, p + k, some (ra.add k), RC - k, SB5, by omega, by have := HR.out; omega, fun h => by omega, by rw [HAT.out]; go_num, by rw [show n - (p + k) = r - k by have := HR.out; omega], by go_num, NXT, Lib.hid (CB5.out.more (by omega)), CA5, Lib.hid (drewN_below T5.out nq)⟩, by simp [intOf]; omega⟩
        · obtain rfl : c = z := by omega
          obtain ⟨k, hkd⟩ : ∃ k, k = r := ⟨_, rfl⟩
          subst hkd
          have hk : k ≤ k := Nat.le_refl _
          have hr6 : k ≤ 600 := by have := HR.out; omega
          have e1 : ((dl.drop p).take k).length = k := by rw [List.length_take, hRL.out]; omega
          have HB1 : Hid (Bytes wr wr.heap.size (.slice (some ra) k RC) ((dl.drop p).take k)) := Lib.hid (by
            have h1 := (hR.out.more hT.out.size).take k (by rw [hRL.out]; exact hk) (by omega)
            exact h1)
          have KW := Lib.hid (fwrite_five2 ⟨qb, mb, sb, bsN F.nat, thN F.nat, 60⟩ (20 * c) _ SB 2 (backL l o (dl.take p)) ((dl.drop p).take k) at_ (.slice (some ra) k RC) wr hB.out (by unfold FS.put; rw [if_pos rfl]) (H5.out.put HF2.out _) rfl (by omega) HB1.out (by rw [e1]; have := HAT.out; have := HR.out; omega))
          rw [put_put] at KW
          have hmore : backL (backL l o (dl.take p)) at_ ((dl.drop p).take k) = backL l o (dl.take (p + k)) := by rw [HAT.out]; exact backL_more l o dl p k (by rw [← HN.out]; have := HR.out; omega)
          rw [hmore] at KW
          have FAw := FA
          go_upto_region 18 with (go_at_call 33; (with_reducible refine KW.out.mono ?_); rintro e w5 ⟨rfl, g5, SB5, C5', _⟩; have CB5 := Lib.hid C5'; have CA5 := Lib.hid (hA.out.other g5 FA.out); have T5 := Lib.hid (hT.out.grown g5 hT.out.size (fun k e => by cases e; exact HMB.out)); have R5 : Hid (Bytes w5 w.heap.size (.slice (some ra) k RC) (dl.drop p)) := Lib.hid (bytes_kept hR.out g5 HMB.out); clear g5 C5' KW)
          have e5 : (k : Int) ≤ (k : Int) := by omega
          have hat6 : at_ ≤ 800 := by have := HAT.out; omega
          by_cases hRk : RC = k
          · subst hRk
            have hrk : RC = RC := rfl
            have NXT : Hid (Bytes w5 w.heap.size (.slice (some ra) (n - (p + RC)) (RC - RC)) (dl.drop (p + RC))) := Lib.hid (by
              have h1 := bytes_part2 R5.out RC (RC - RC) (by rw [hRL.out]; omega) (by omega) (some ra) (if_pos rfl)
              have h2 : ((dl.drop p).drop RC).take (RC - RC) = dl.drop (p + RC) := by rw [List.drop_drop]; exact List.take_of_length_le (by rw [List.length_drop]; have := HR.out; have := HN.out; omega)
              rw [h2] at h1
              rwa [show n - (p + RC) = RC - RC by have := HR.out; omega])
            go_quiet (fail)
            rename_i nq
            go_wp2_with fail
            exact ⟨⟨c + 1, p + RC, some ra, RC - RC, SB5, by omega, by have := HR.out; omega, fun h => by have := HR.out; omega, by rw [HAT.out]; go_num, by rw [show n - (p + RC) = RC - RC by have := HR.out; omega]; simp, by go_num, NXT, Lib.hid (CB5.out.more (by omega)), CA5, Lib.hid (drewN_below T5.out nq)⟩, by simp [intOf] <;> omega⟩
          · have NXT : Hid (Bytes w5 w.heap.size (.slice (some (ra.add k)) (n - (p + k)) (RC - k)) (dl.drop (p + k))) := Lib.hid (by
              have h1 := bytes_part2 R5.out k (k - k) (by rw [hRL.out]; omega) (by omega) (some (ra.add k)) (if_neg hRk)
              have h2 : ((dl.drop p).drop k).take (k - k) = dl.drop (p + k) := by rw [List.drop_drop]; exact List.take_of_length_le (by rw [List.length_drop]; have := HR.out; have := HN.out; omega)
              rw [h2] at h1
              rwa [show n - (p + k) = k - k by have := HR.out; omega])
            go_quiet (fail)
            rename_i nq
            go_wp2_with fail
            exact ⟨⟨c + 1, p + k, some (ra.add k), RC - k, SB5, by omega, by have := HR.out; omega, fun h => by have := HR.out; omega, by rw [HAT.out]; go_num, by rw [show n - (p + k) = k - k by have := HR.out; omega]; simp, by go_num, NXT, Lib.hid (CB5.out.more (by omega)), CA5, Lib.hid (drewN_below T5.out nq)⟩, by simp [intOf] <;> omega⟩
      · have hpn : p = n := by have := HR.out; omega
        have hr1 : r = 0 := by omega
        have hxx : dl.take p = dl := List.take_of_length_le (by rw [hpn, HN.out]; exact Nat.le_refl _)
        rw [hxx, ← HX.out, ← HG.out] at hB
        have HG2 : Hid (G 2 = some (.file X)) := Lib.hid (by rw [HG.out]; unfold FS.put; rw [if_pos rfl])
        have hx7 : X.length ≤ 1000 := by rw [HX.out, backL_len]; have := HLL.out; have := HN.out; split <;> omega
        have e1 : ((X.drop 0).take 1000) = X := by rw [List.drop_zero]; exact List.take_of_length_le hx7
        have HXM : Hid (X.length ≤ maxLen) := Lib.hid (by unfold maxLen; omega)
        have g0 : ¬ (0 : Int) < (r : Int) := by omega
        have KRA := Lib.hid (fread_file ⟨qa, ma, sa, bsN F.nat, thN F.nat, 60⟩ (0 + 20) G _ 2 X 0 1000 wr hA.out HG2.out)
        rw [e1, show ((0 : Nat) : Int) = 0 from rfl, show ((1000 : Nat) : Int) = 1000 from rfl] at KRA
        clear hxx hpn hx7 hcp
        go_upto_region 20 with (go_at_call 28; (with_reducible refine KRA.out.mono ?_); rintro e w6 ⟨A6, c6, z6, hz6, rfl, P6, b6⟩; have HZ6 := Lib.hid hz6.out; have HP6 := Lib.hid P6; have CA6 := Lib.hid (hA.out.after b6); have CB6 := Lib.hid (hB.out.after b6); have T6 := Lib.hid (hT.out.trans (b6.mono hT.out.size)); clear hz6 P6 b6)
        have KRB := Lib.hid (fread_file ⟨qb, mb, sb, bsN F.nat, thN F.nat, 60⟩ (20 * c) G _ 2 X 0 1000 w6 CB6.out HG2.out)
        rw [e1, show ((0 : Nat) : Int) = 0 from rfl, show ((1000 : Nat) : Int) = 1000 from rfl] at KRB
        have HEQ : Hid (∀ (M : List UInt8), M.length = 32 → ∀ w, (Op.equalIn 10000 53 (.agg (cl M)) (.agg (cl M))).run Try.prog w = .ok true w) := Lib.hid (fun M hM w => by rw [equalIn_lcl hM hM w, decide_eq_true rfl])
        clear e1 KRA
        go_upto_region 21 with (go_at_call 28; (with_reducible refine KRB.out.mono ?_); rintro e w7 ⟨A7, c7, z7, hz7, rfl, P7, b7⟩; obtain rfl : z7 = z6 := hz7.out.symm.trans HZ6.out; have HP7 := Lib.hid P7; have Q7 := Lib.hid ((HP6.out.bytes HXM.out).below b7); have CA7 := Lib.hid (CA6.out.after b7); have CB7 := Lib.hid (CB6.out.after b7); have T7 := Lib.hid (T6.out.trans (b7.mono T6.out.size)); clear hz7 P7 b7)
        have hq1 := run_str (w := w7) (st := 9) byteTys Try.underlying5 Try.underlying9 (show Bytes w7 w6.heap.size (.slice A6 z7 c6) X from Q7.out)
        have hq2 := run_str (w := w7) (st := 9) byteTys Try.underlying5 Try.underlying9 (show Bytes w7 w7.heap.size (.slice A7 z7 c7) X from HP7.out.bytes HXM.out)
        have KLA := Lib.hid (live_fat ⟨qa, ma, sa, bsN F.nat, thN F.nat, 60⟩ (0 + 20) G _ w7 CA7.out)
        go_wp2_with (first
          | (go_at_call 23; (with_reducible refine KLA.out.mono ?_); rintro e w8 ⟨M, ML', rfl, HM', b8⟩; have HML := Lib.hid ML'; have HM := Lib.hid HM'; have T8 := Lib.hid (T7.out.trans (b8.mono T7.out.size)); have KLB := Lib.hid (live_fat ⟨qb, mb, sb, bsN F.nat, thN F.nat, 60⟩ (20 * c) G _ w8 (CB7.out.after b8)); clear KLA ML' HM' b8)
          | (go_at_call 23; (with_reducible refine KLB.out.mono ?_); rintro e w9 ⟨M2, ML2, rfl, HM2, b9⟩; obtain rfl : M2 = M := live_ext ML2 HML.out (fun z => (HM2 z).trans (HM.out z).symm); have heq := HEQ.out M2 ML2; have T9 := Lib.hid (T8.out.trans (b9.mono T8.out.size)); clear KLB ML2 HM2 b9))
        go_ret
        exact ⟨rfl, T9.out⟩
end Go.Proofs.Ytppodbijdhcclaa


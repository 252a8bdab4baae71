/- What the document's Read answers of a directory's bytes. No condition but that the bytes are there. -/
import Derived.Test.YtppodbijdhcclaaQInoRefR
namespace Go.Proofs.Ytppodbijdhcclaa
open Go.RowKit
theorem add_succ' (a : Addr) (p : Nat) : a.add (p + 1) = ⟨a.block, a.off + (p + 1), none⟩ := by
  unfold Addr.add
  simp
theorem wrap_i64_id {z : Int} (h1 : 0 ≤ z) (h2 : z ≤ 9223372036854775807) : IntKind.i64.wrap z = z := by
  rw [IntKind.wrap_i64]
  omega
theorem yields_strI {ops : Array Oper} {o : Oper} {a : Act} {S : World → Prop} {v : Value} {l : List UInt8} (x : Operand) (ho : o.op = .convert 44 9 x) (hgd : Region.wanted o (yielded ops a.tmps) = true)
    (hx : a.eval x = v) (u : ByteArray) (hu : ⟨l.toArray⟩ = u) (hS : ∀ w, S w → Bytes w w.heap.size v l) : YieldsIf Try.prog ops S o (.string u) a :=
  .inl ⟨hgd, fun w hw => by
    unfold execOp
    simp only [ho, hx, Sem.run_bind, Sem.run_pure, Result.andThen_ok, str_of (hS w hw), hu]⟩
theorem bytes_part {w : World} {B : Nat} {ad : Addr} {n c : Nat} {l : List UInt8} (h : Bytes w B (.slice (some ad) n c) l) (k s : Nat) (hk : k + s ≤ l.length) : Bytes w B (.slice (some (ad.add k)) s (c - k)) ((l.drop k).take s) := by
  obtain ⟨_, c', e, h1, h2, h3⟩ := h
  cases e
  have hl : ((l.drop k).take s).length = s := by rw [List.length_take, List.length_drop]; omega
  refine ⟨some (ad.add k), c - k, by rw [hl], by omega, by omega, fun j u hu => ?_⟩
  have hj := get_lt hu
  rw [bv_length, hl] at hj
  have h4 : (bv l)[k + j]? = some u := by
    rw [← hu]
    simp only [bv, List.getElem?_map, List.getElem?_take, List.getElem?_drop]
    rw [if_pos (by omega)]
  obtain ⟨a, e, hb, hc⟩ := h3 _ _ h4
  cases e
  exact ⟨ad.add k, rfl, by rw [add_block]; exact hb, by rw [add_twice]; exact hc⟩
theorem bytes_part2 {w : World} {B : Nat} {ad : Addr} {n c : Nat} {l : List UInt8} (h : Bytes w B (.slice (some ad) n c) l) (k s : Nat) (hk : k + s ≤ l.length) (hc : k + s ≤ c) (AA : Option Addr) (hA : (if c = k then some ad else some (ad.add k)) = AA) : Bytes w B (.slice AA s (c - k)) ((l.drop k).take s) := by
  subst hA
  by_cases e : c = k
  · obtain rfl : s = 0 := by omega
    rw [if_pos e, List.take_zero]
    exact ⟨_, c - k, rfl, Nat.zero_le _, by obtain ⟨_, c', e', _, h2, _⟩ := h; cases e'; omega, Row.nil⟩
  · rw [if_neg e]
    exact bytes_part h k s hk
theorem yields_part {ops : Array Oper} {o : Oper} {a : Act} {S : World → Prop} (x y z : Operand) (ho : o.op = .slice 44 x (some y) (some z) none) (hgd : Region.wanted o (yielded ops a.tmps) = true)
    (ad : Addr) (n c lo hi : Nat) (hx : a.eval x = .slice (some ad) n c) (hy : a.eval y = .int .i64 (lo : Int)) (hz : a.eval z = .int .i64 (hi : Int)) (h1 : lo ≤ hi) (h2 : hi ≤ c) (AA : Option Addr) (hA : (if c = lo then some ad else some (ad.add lo)) = AA) (s : Nat) (hs : hi - lo = s) : YieldsIf Try.prog ops S o (.slice AA s (c - lo)) a :=
  .inl ⟨hgd, fun w hw => by
    subst hA
    subst hs
    unfold execOp
    simp only [ho, hx, Option.map_some, Option.map_none, hy, hz]
    clear hx hy hz ho hgd hw
    have i1 : (0 : Int) ≤ (hi : Int) ∧ (hi : Int) ≤ (c : Int) := ⟨by omega, by omega⟩
    have i2 : (0 : Int) ≤ (lo : Int) ∧ (lo : Int) ≤ max (hi : Int) 0 := ⟨by omega, by omega⟩
    go_simp⟩
set_option maxRecDepth 100000 in
set_option maxHeartbeats 16000000 in
theorem refRead_dir (v : Value) (a b : UInt8) (t : List UInt8) (w : World) (hv : Bytes w w.heap.size v (a :: b :: t)) (ha : a.toNat = 2) (hb8 : b.toNat ≤ 8) (ht : t.length ≤ 1000) :
    Calls Try.prog 46 #[v] w fun x w' => ∃ n, Hid (n = (inoR (a :: b :: t)).getD ⟨0, 0, []⟩) ∧ ∃ A c, x = .returned (.tuple #[.agg #[.int .i64 n.k, .int .i64 n.z, .slice A n.es.length c], .int .i64 (errR (inoR (a :: b :: t)))]) ∧ OwnE w' w.heap.size (.slice A n.es.length c) n.es ∧ Below w.heap.size w w' := by
  have HV := Lib.hid hv
  have HIN := Lib.hid (inoR_dir a b t ha)
  obtain ⟨A0, c0, rfl, hc, hm, hr⟩ := hv
  obtain ⟨ad, rfl, hab, x0⟩ := HV.out.at_ (k := 0) (b := a) rfl
  obtain ⟨_, e, _, x1⟩ := HV.out.at_ (k := 1) (b := b) rfl
  cases e
  rw [show ad.add 0 = ad by simp [Addr.add], ha] at x0
  have b1 := Lib.hid ((Below.refl w.heap.size w).alloc (Nat.le_refl _) (.cells #[.int .i64 0, .int .i64 0, .slice none 0 0] 66))
  have B1 := Lib.hid (Blk.new w 66 [.int .i64 0, .int .i64 0, .slice none 0 0])
  obtain ⟨z, hz⟩ : ∃ z, b.toNat = z := ⟨_, rfl⟩
  rw [hz] at x1 hb8 HIN
  have z1 : w.cell? ⟨ad.block, ad.off + 1, none⟩ = some (.int .u8 (z : Int)) := x1
  have HX1 := Lib.hid (fun (w' : World) (hb : Below w.heap.size w w') => (hb.cell (p := ad.add 1) (by rw [add_block]; exact hab)).trans x1)
  obtain ⟨D, hD⟩ : ∃ D, a :: b :: t = D := ⟨_, rfl⟩
  obtain ⟨N, hN⟩ : ∃ N, D.length = N := ⟨_, rfl⟩
  have hN2 : N = t.length + 2 := by rw [← hN, ← hD]; simp
  have HDT : Hid (D.drop 2 = t) := Lib.hid (by rw [← hD]; rfl)
  rw [hD] at hc HV HIN
  rw [hD, hN]
  rw [hN] at hc
  have HN := Lib.hid hN
  have HAB := Lib.hid hab
  have u0 : 1 < N := by omega
  have uN : N ≤ 1002 := by omega
  have i2 : ¬ (N : Int) < 2 := by omega
  have i6 : ¬ (8 : Int) < (z : Int) := by omega
  have HTL := Lib.hid hN2
  obtain ⟨ti, hi, hzz, hs, hby⟩ := infoE'
  clear hr hm x1 hz hD hN hN2 ht
  by_cases h3 : N = 3
  · have i3 : ((N : Int) == 3) = true := by rw [beq_iff_eq]; omega
    clear h3
    go_enter Try.func46, Try.ntmps46
    go_wp2_with fail
    have H3 : Hid (Below w.heap.size w ((w.alloc (.cells #[.int .i64 0, .int .i64 0, .slice none 0 0] 66)).alloc (.cells #[.int .i64 2, .int .i64 0, .slice none 0 0] 66))) := Lib.hid (b1.out.alloc b1.out.size (.cells #[.int .i64 2, .int .i64 0, .slice none 0 0] 66))
    have B3 : Hid (Blk ((w.alloc (.cells #[.int .i64 0, .int .i64 0, .slice none 0 0] 66)).alloc (.cells #[.int .i64 2, .int .i64 0, .slice none 0 0] 66)) w.heap.size 66 [.int .i64 0, .int .i64 0, .slice none 0 0]) := Lib.hid (B1.out.alloc (.cells #[.int .i64 2, .int .i64 0, .slice none 0 0] 66))
    have hn3 := Blk.new (w.alloc (.cells #[.int .i64 0, .int .i64 0, .slice none 0 0] 66)) 66 [.int .i64 2, .int .i64 0, .slice none 0 0]
    rw [World.size_alloc] at hn3
    have N3 : Hid (Blk ((w.alloc (.cells #[.int .i64 0, .int .i64 0, .slice none 0 0] 66)).alloc (.cells #[.int .i64 2, .int .i64 0, .slice none 0 0] 66)) (w.heap.size + 1) 66 [.int .i64 2, .int .i64 0, .slice none 0 0]) := Lib.hid hn3
    have SZ3 : Hid (w.heap.size + 2 ≤ ((w.alloc (.cells #[.int .i64 0, .int .i64 0, .slice none 0 0] 66)).alloc (.cells #[.int .i64 2, .int .i64 0, .slice none 0 0] 66)).heap.size) := Lib.hid (by simp)
    generalize ((w.alloc (.cells #[.int .i64 0, .int .i64 0, .slice none 0 0] 66)).alloc (.cells #[.int .i64 2, .int .i64 0, .slice none 0 0] 66)) = W3 at H3 B3 N3 SZ3 ⊢
    obtain ⟨g0, hg0⟩ : ∃ g0, w.heap.size = g0 := ⟨_, rfl⟩
    have HG0 := Lib.hid hg0
    rw [hg0] at B3 N3 SZ3 ⊢
    clear hn3 x0 z1 B1 b1 hg0
    go_loopg [6, 7, 8] z (fun m pt i _ wx => ∃ q p n : Nat, ∃ A c, ∃ es lq, q + m = z ∧ i = .int .i64 q ∧ pt = .int .i64 p ∧ n = q ∧ Hid (lq = D.drop p) ∧ Hid (p ≤ N ∧ 2 ≤ p) ∧ Hid (es.length = n) ∧ Hid (Blk wx g0 66 [.int .i64 0, .int .i64 0, .slice none 0 0]) ∧ Hid (Blk wx (g0 + 1) 66 [.int .i64 2, .int .i64 0, .slice A n c]) ∧ Hid (OwnE wx (g0 + 2) (.slice A n c) es) ∧ Hid (Below w.heap.size w wx) ∧ Hid (g0 + 2 ≤ wx.heap.size) ∧ Hid (rEs z t false = (es ++ (rEs m lq false).1, (rEs m lq false).2)))
    case atStart => exact ⟨0, 2, 0, none, 0, [], t, by omega, rfl, rfl, rfl, Lib.hid HDT.out.symm, Lib.hid ⟨by omega, by omega⟩, Lib.hid rfl, B3, N3, Lib.hid (OwnE.nil _ _), H3, SZ3, Lib.hid rfl⟩
    case round =>
      obtain ⟨q, p, n, A, c, es, lq, hq, rfl, rfl, hnq, hlq, hp, hel, hB, hN, hO, hW, hZ, hE⟩ := hrel
      subst hnq
      have z1 : wr.cell? ⟨ad.block, ad.off + 1, none⟩ = some (.int .u8 (z : Int)) := HX1.out _ hW.out
      have HLL : Hid (p + lq.length = N) := Lib.hid (by rw [hlq.out, List.length_drop, HN.out]; have := hp.out.1; omega)
      cases gk with
      | zero =>
        obtain rfl : n = z := by omega
        have i7 : ¬ (n : Int) < (n : Int) := by omega
        have HIN2 := HIN.out
        rw [hE.out] at HIN2
        simp only [rEs, List.append_nil, true_and] at HIN2
        have HIN3 := Lib.hid HIN2
        clear hq HIN2
        by_cases hpn : p = N
        · have i8 : ((p : Int) != (N : Int)) = false := by simp; omega
          have hl0 : lq = [] := List.eq_nil_of_length_eq_zero (by have := HLL.out; omega)
          have KC := Lib.hid (irefRight_any ⟨2, 0, es⟩ (.slice A n c) wr hO.out.ents)
          obtain ⟨R, hR⟩ : ∃ R, decide (IN.ok ⟨2, 0, es⟩) = R := ⟨_, rfl⟩
          rw [hR] at KC
          have HR := Lib.hid hR
          have HI0 : Hid (inoR D = if IN.ok ⟨2, 0, es⟩ then some ⟨2, 0, es⟩ else none) := Lib.hid (by
            rw [HIN3.out, hl0]
            by_cases ho : IN.ok ⟨2, 0, es⟩
            · rw [if_pos ⟨rfl, ho⟩, if_pos ho]
            · rw [if_neg (fun h => ho h.2), if_neg ho])
          clear hR hl0 HIN3
          subst hpn
          go_wp2_with (with_reducible refine wpl_seg_load aggI sizeI (.tmp 5) rfl rfl hN.out 0 [.int .i64 2, .int .i64 0, .slice A n c] rfl rfl rfl ?_)
          refine KC.out.mono ?_
          rintro e w4 ⟨rfl, b4⟩
          have H4 := Lib.hid (hW.out.trans (b4.mono hW.out.size))
          have B4 := Lib.hid (hB.out.after b4)
          have N4 := Lib.hid (hN.out.after b4)
          have O4 := Lib.hid (hO.out.kept b4)
          clear b4 KC hB hN hO hW z1
          cases R with
          | true =>
            have HO : Hid (IN.ok ⟨2, 0, es⟩) := Lib.hid (of_decide_eq_true HR.out)
            have HI : Hid (inoR D = some ⟨2, 0, es⟩) := Lib.hid (by rw [HI0.out, if_pos HO.out])
            go_wp2_with (first
              | (with_reducible refine wpl_seg_load aggI sizeI (.tmp 5) rfl rfl N4.out 0 [.int .i64 2, .int .i64 0, .slice A n c] rfl rfl rfl ?_)
              | ((with_reducible refine wpl_seg_store sizeI (.tmp 2) (.tmp 117) rfl rfl B4.out 0 [.int .i64 2, .int .i64 0, .slice A n c] rfl (Nat.le_refl _) (by simp [Value.oneCell']) rfl rfl _ rfl ?_); intro w10 B10 g10 e10))
            refine bodyPost_ret (iret2 rfl _ B10 rfl rfl) rfl ?_
            have O10 := O4.out.grown (by omega) g10
            have hel2 := hel.out
            subst hel2
            exact ⟨⟨2, 0, es⟩, Lib.hid (by rw [HI.out]; rfl), A, c, by rw [HI.out]; rfl, O10.lower (by have := HG0.out; omega), H4.out.grown g10 H4.out.size (fun k e => by cases e; rw [← HG0.out]; exact Nat.le_refl _)⟩
          | false =>
            have HO : Hid (¬ IN.ok ⟨2, 0, es⟩) := Lib.hid (of_decide_eq_false HR.out)
            have HI : Hid (inoR D = none) := Lib.hid (by rw [HI0.out, if_neg HO.out])
            go_wp2_with ((with_reducible refine wpl_seg_store sizeI (.tmp 2) (.tmp 116) rfl rfl B4.out 0 [.int .i64 0, .int .i64 0, .slice none 0 0] rfl (Nat.le_refl _) (by simp [Value.oneCell']) rfl rfl _ rfl ?_); intro w10 B10 g10 e10)
            refine bodyPost_ret (iret2 rfl _ B10 rfl rfl) rfl ?_
            exact ⟨⟨0, 0, []⟩, Lib.hid (by rw [HI.out]; rfl), none, 0, by rw [HI.out]; rfl, OwnE.nil _ _, H4.out.grown g10 H4.out.size (fun k e => by cases e; rw [← HG0.out]; exact Nat.le_refl _)⟩
        · have i8 : ((p : Int) != (N : Int)) = true := by simp; omega
          have i9 : ¬ (p : Int) = (N : Int) := by omega
          have HI : Hid (inoR D = none) := Lib.hid (by
            rw [HIN3.out, if_neg]
            intro h
            have h2 := h.1
            have := HLL.out
            rw [h2] at this
            simp at this
            exact hpn this)
          clear HIN3 hpn
          go_wp2_with ((with_reducible refine wpl_seg_store sizeI (.tmp 2) (.tmp 116) rfl rfl hB.out 0 [.int .i64 0, .int .i64 0, .slice none 0 0] rfl (Nat.le_refl _) (by simp [Value.oneCell']) rfl rfl _ rfl ?_); intro w10 B10 g10 e10)
          refine bodyPost_ret (iret2 rfl _ B10 rfl rfl) rfl ?_
          exact ⟨⟨0, 0, []⟩, Lib.hid (by rw [HI.out]; rfl), none, 0, by rw [HI.out]; rfl, OwnE.nil _ _, hW.out.grown g10 hW.out.size (fun k e => by cases e; rw [← HG0.out]; exact Nat.le_refl _)⟩
      | succ m =>
        have i7 : (n : Int) < (z : Int) := by omega
        have up : p ≤ 1002 := by have := hp.out.1; omega
        have HBAD : Hid (rBad false lq = true → inoR D = none) := Lib.hid fun hb => by
          rw [HIN.out, hE.out]
          simp only [rEs, hb, rEs_bad]
          exact if_neg (fun h => by cases h.1)
        by_cases h2 : p + 2 ≤ N
        · have i8 : ¬ (N : Int) < (p : Int) + 2 := by omega
          obtain ⟨x, y, r, hxy⟩ : ∃ x y r, lq = x :: y :: r := by
            match lq, HLL.out with
            | [], h => simp at h; omega
            | [x], h => simp at h; omega
            | x :: y :: r, _ => exact ⟨x, y, r, rfl⟩
          have dx : D[p]? = some x := by
            have : (D.drop p)[0]? = some x := by rw [← hlq.out, hxy]; rfl
            rwa [List.getElem?_drop] at this
          have dy : D[p + 1]? = some y := by
            have : (D.drop p)[1]? = some y := by rw [← hlq.out, hxy]; rfl
            rwa [List.getElem?_drop] at this
          have HDR : Hid (D.drop (p + 2) = r) := Lib.hid (by rw [← List.drop_drop, ← hlq.out, hxy]; rfl)
          have HVr := Lib.hid (HV.out.below hW.out)
          obtain ⟨_, e, _, cx⟩ := HVr.out.at_ dx
          cases e
          obtain ⟨_, e, _, cy⟩ := HVr.out.at_ dy
          cases e
          obtain ⟨s, hs'⟩ : ∃ s, y.toNat = s := ⟨_, rfl⟩
          have us : s < 256 := by rw [← hs']; exact y.toNat_lt
          have us2 : (s : Int) < 256 := by omega
          rw [hs'] at cy
          have cy1 : wr.cell? ⟨ad.block, ad.off + (p + 1), none⟩ = some (.int .u8 (s : Int)) := by
            rw [← add_succ' ad p]
            exact cy
          have HRL : Hid (p + 2 + r.length = N) := Lib.hid (by have := HLL.out; rw [hxy] at this; simp at this; omega)
          have HEN : Hid (rEnt lq = ⟨⟨(rTake s r).toArray⟩, (x.toNat : Int)⟩ ∧ rRest lq = r.drop s ∧ rBad false lq = decide (r.length < s)) := Lib.hid (by
            rw [hxy]
            unfold rEnt rRest rBad
            simp only [List.drop_succ_cons, List.drop_zero, r1_cons, hs', List.length_cons]
            refine ⟨trivial, trivial, ?_⟩
            rw [show (decide (r.length + 1 + 1 < 1)) = false by simp, show (decide (r.length + 1 < 1)) = false by simp]
            simp)
          by_cases h4 : p + 2 + s ≤ N
          · have i10 : ¬ (N : Int) < (p : Int) + 2 + (s : Int) := by omega
            have HNB : Hid (rBad false lq = false) := Lib.hid (by rw [HEN.out.2.2]; have := HRL.out; simp; omega)
            have HTK : Hid (rTake s r = (D.drop (p + 2)).take s) := Lib.hid (by rw [HDR.out]; exact if_pos (by have := HRL.out; omega))
            obtain ⟨st, hst⟩ : ∃ st : ByteArray, ⟨((D.drop (p + 2)).take s).toArray⟩ = st := ⟨_, rfl⟩
            obtain ⟨X, hX⟩ : ∃ X, x.toNat = X := ⟨_, rfl⟩
            have uX : (X : Int) < 256 := by have := x.toNat_lt; omega
            have hcap : p + 2 + s ≤ c0 := by omega
            have plt : p < N := by omega
            obtain ⟨AA, hAA⟩ : ∃ AA : Option Addr, (if c0 = p + 2 then some ad else some (ad.add (p + 2))) = AA := ⟨_, rfl⟩
            have HAA := Lib.hid hAA
            clear hAA
            have HE2 : Hid (rEs z t false = ((es ++ [⟨st, (X : Int)⟩]) ++ (rEs m (r.drop s) false).1, (rEs m (r.drop s) false).2)) := Lib.hid (by
              rw [hE.out]
              simp only [rEs, HNB.out, HEN.out.1, HEN.out.2.1, HTK.out, hst, hX]
              rw [List.append_assoc]
              rfl)
            have HR2 : Hid (r.drop s = D.drop (p + (2 + s))) := Lib.hid (by rw [← HDR.out, List.drop_drop]; congr 1; omega)
            have c5 : wr.cell? ⟨g0 + 1, 2, none⟩ = some (.slice A n c) := hN.out.cell 2
            have HS : Hid (∀ w', Below w.heap.size w w' → w'.cell? (ad.add p) = some (.int .u8 (X : Int)) ∧ Bytes w' w'.heap.size (.slice AA s (c0 - (p + 2))) ((D.drop (p + 2)).take s)) := Lib.hid fun w' hb => by
              have hb2 := (HV.out.below hb)
              obtain ⟨_, e, _, cx'⟩ := hb2.at_ dx
              cases e
              rw [hX] at cx'
              rw [HN.out] at hb2
              exact ⟨cx', (bytes_part2 hb2 (p + 2) s (by rw [HN.out]; omega) hcap AA HAA.out).more hb.size⟩
            rw [hX] at cx
            have HST := Lib.hid hst
            have T1 := Lib.hid hW.out.drew
            have S1 := HS.out _ T1.out
            clear HBAD HEN HDR dx dy hs' hxy HTK HNB hst hX HVr HIN
            go_wp2_with fail
            refine wp_region_held_drew (S := (fun w' => w'.cell? (ad.add p) = some (.int .u8 (X : Int)) ∧ Bytes w' w'.heap.size (.slice AA s (c0 - (p + 2))) ((D.drop (p + 2)).take s))) (by kernel_rfl) S1 (fun _ => ?_)
            refine wpAnyH_take (i := 0) (v := .pointer (some ⟨g0 + 1, 2, none⟩)) rfl (by kernel_rfl) (by kernel_rfl) (by kernel_rfl) (fun _ _ _ h => h) (Or.inl ⟨by kernel_rfl, fun w _ => by go_simp⟩) S1 ?_
            simp only [Act.put, List.getElem_toArray, List.getElem_cons_zero, List.setIfInBounds_toArray, List.set_cons_zero, List.set_cons_succ]
            refine wpAnyH_take (i := 2) (v := .slice (some ad) N c0) rfl (by kernel_rfl) (by kernel_rfl) (by kernel_rfl) (fun _ _ _ h => h) (Or.inl ⟨by kernel_rfl, fun w _ => by go_simp⟩) S1 ?_
            simp only [Act.put, List.getElem_toArray, List.getElem_cons_zero, List.getElem_cons_succ, List.setIfInBounds_toArray, List.set_cons_zero, List.set_cons_succ]
            refine wpAnyH_take (i := 3) (v := .int .i64 (p : Int)) rfl (by kernel_rfl) (by kernel_rfl) (by kernel_rfl) (fun _ _ _ h => h) (Or.inl ⟨by kernel_rfl, fun w _ => by go_simp⟩) S1 ?_
            simp only [Act.put, List.getElem_toArray, List.getElem_cons_zero, List.getElem_cons_succ, List.setIfInBounds_toArray, List.set_cons_zero, List.set_cons_succ]
            refine wpAnyH_take (i := 4) (v := .pointer (some (ad.add p))) rfl (by kernel_rfl) (by kernel_rfl) (by kernel_rfl) (fun _ _ _ h => h) (Or.inl ⟨by kernel_rfl, fun w _ => by go_simp⟩) S1 ?_
            simp only [Act.put, List.getElem_toArray, List.getElem_cons_zero, List.getElem_cons_succ, List.setIfInBounds_toArray, List.set_cons_zero, List.set_cons_succ]
            refine wpAnyH_take (i := 5) (v := .int .u8 (X : Int)) rfl (by kernel_rfl) (by kernel_rfl) (by kernel_rfl) (fun _ _ _ h => h) (yields_one (ty := 5) (fun w => by kernel_rfl) (.tmp 87) (by kernel_rfl) (by kernel_rfl) (by kernel_rfl) (fun w h => h.1)) S1 ?_
            simp only [Act.put, List.getElem_toArray, List.getElem_cons_zero, List.getElem_cons_succ, List.setIfInBounds_toArray, List.set_cons_zero, List.set_cons_succ]
            refine wpAnyH_take (i := 6) (v := .int .i64 (X : Int)) rfl (by kernel_rfl) (by kernel_rfl) (by kernel_rfl) (fun _ _ _ h => h) (Or.inl ⟨by kernel_rfl, fun w _ => by go_simp; exact wrap_i64_id (by omega) (by omega)⟩) S1 ?_
            simp only [Act.put, List.getElem_toArray, List.getElem_cons_zero, List.getElem_cons_succ, List.setIfInBounds_toArray, List.set_cons_zero, List.set_cons_succ]
            refine wpAnyH_take (i := 7) (v := .slice (some ad) N c0) rfl (by kernel_rfl) (by kernel_rfl) (by kernel_rfl) (fun _ _ _ h => h) (Or.inl ⟨by kernel_rfl, fun w _ => by go_simp⟩) S1 ?_
            simp only [Act.put, List.getElem_toArray, List.getElem_cons_zero, List.getElem_cons_succ, List.setIfInBounds_toArray, List.set_cons_zero, List.set_cons_succ]
            refine wpAnyH_take (i := 8) (v := .int .i64 (p : Int)) rfl (by kernel_rfl) (by kernel_rfl) (by kernel_rfl) (fun _ _ _ h => h) (Or.inl ⟨by kernel_rfl, fun w _ => by go_simp⟩) S1 ?_
            simp only [Act.put, List.getElem_toArray, List.getElem_cons_zero, List.getElem_cons_succ, List.setIfInBounds_toArray, List.set_cons_zero, List.set_cons_succ]
            refine wpAnyH_take (i := 9) (v := .int .i64 ((p + 2 : Nat) : Int)) rfl (by kernel_rfl) (by kernel_rfl) (by kernel_rfl) (fun _ _ _ h => h) (Or.inl ⟨by kernel_rfl, fun w _ => by go_simp; exact wrap_i64_id (by omega) (by omega)⟩) S1 ?_
            simp only [Act.put, List.getElem_toArray, List.getElem_cons_zero, List.getElem_cons_succ, List.setIfInBounds_toArray, List.set_cons_zero, List.set_cons_succ]
            refine wpAnyH_take (i := 10) (v := .int .i64 (p : Int)) rfl (by kernel_rfl) (by kernel_rfl) (by kernel_rfl) (fun _ _ _ h => h) (Or.inl ⟨by kernel_rfl, fun w _ => by go_simp⟩) S1 ?_
            simp only [Act.put, List.getElem_toArray, List.getElem_cons_zero, List.getElem_cons_succ, List.setIfInBounds_toArray, List.set_cons_zero, List.set_cons_succ]
            refine wpAnyH_take (i := 11) (v := .int .i64 ((p + 2 : Nat) : Int)) rfl (by kernel_rfl) (by kernel_rfl) (by kernel_rfl) (fun _ _ _ h => h) (Or.inl ⟨by kernel_rfl, fun w _ => by go_simp; exact wrap_i64_id (by omega) (by omega)⟩) S1 ?_
            simp only [Act.put, List.getElem_toArray, List.getElem_cons_zero, List.getElem_cons_succ, List.setIfInBounds_toArray, List.set_cons_zero, List.set_cons_succ]
            refine wpAnyH_take (i := 12) (v := .int .i64 (s : Int)) rfl (by kernel_rfl) (by kernel_rfl) (by kernel_rfl) (fun _ _ _ h => h) (Or.inl ⟨by kernel_rfl, fun w _ => by go_simp⟩) S1 ?_
            simp only [Act.put, List.getElem_toArray, List.getElem_cons_zero, List.getElem_cons_succ, List.setIfInBounds_toArray, List.set_cons_zero, List.set_cons_succ]
            refine wpAnyH_take (i := 13) (v := .int .i64 ((p + 2 + s : Nat) : Int)) rfl (by kernel_rfl) (by kernel_rfl) (by kernel_rfl) (fun _ _ _ h => h) (Or.inl ⟨by kernel_rfl, fun w _ => by go_simp; exact wrap_i64_id (by omega) (by omega)⟩) S1 ?_
            simp only [Act.put, List.getElem_toArray, List.getElem_cons_zero, List.getElem_cons_succ, List.setIfInBounds_toArray, List.set_cons_zero, List.set_cons_succ]
            refine wpAnyH_take (i := 14) (v := .slice AA s (c0 - (p + 2))) rfl (by kernel_rfl) (by kernel_rfl) (by kernel_rfl) (fun _ _ _ h => h) (yields_part (.tmp 90) (.tmp 92) (.tmp 96) (by kernel_rfl) (by kernel_rfl) ad N c0 (p + 2) (p + 2 + s) (by kernel_rfl) (by kernel_rfl) (by kernel_rfl) (by omega) hcap AA HAA.out s (by omega)) S1 ?_
            simp only [Act.put, List.getElem_toArray, List.getElem_cons_zero, List.getElem_cons_succ, List.setIfInBounds_toArray, List.set_cons_zero, List.set_cons_succ]
            refine wpAnyH_take (i := 15) (v := .string st) rfl (by kernel_rfl) (by kernel_rfl) (by kernel_rfl) (fun _ _ _ h => h) (yields_strI (.tmp 97) (by kernel_rfl) (by kernel_rfl) (by kernel_rfl) st HST.out (fun w h => h.2)) S1 ?_
            simp only [Act.put, List.getElem_toArray, List.getElem_cons_zero, List.getElem_cons_succ, List.setIfInBounds_toArray, List.set_cons_zero, List.set_cons_succ]
            refine wpAnyH_take (i := 16) (v := .agg #[.string st, .int .i64 (X : Int)]) rfl (by kernel_rfl) (by kernel_rfl) (by kernel_rfl) (fun _ _ _ h => h) (Or.inl ⟨by kernel_rfl, fun w _ => by go_simp⟩) S1 ?_
            simp only [Act.put, List.getElem_toArray, List.getElem_cons_zero, List.getElem_cons_succ, List.setIfInBounds_toArray, List.set_cons_zero, List.set_cons_succ]
            refine wpAnyH_ready (rs := [1, 17]) (by kernel_rfl) (by simp) (AllReadyH.cons rfl (fun K hK => ?_) (AllReadyH.cons rfl (fun K hK => ?_) AllReadyH.nil))
            · go_simp
              refine hK _ _ S1 (fun _ => ?_)
              clear hK K
              refine wpAnyH_ready (rs := [17]) (by kernel_rfl) (by simp) (AllReadyH.cons rfl (fun K hK => ?_) AllReadyH.nil)
              go_simp
              have T2 := Lib.hid ((hW.out.alloc hW.out.size (.cells #[.string st, .int .i64 (X : Int)] 129)).drew)
              have O2 : Hid (OwnE (wr.alloc (.cells #[.string st, .int .i64 (X : Int)] 129)).drew (g0 + 2) (.slice A n c) es) := Lib.hid (hO.out.kept (((Below.refl wr.heap.size wr).alloc (Nat.le_refl _) (.cells #[.string st, .int .i64 (X : Int)] 129)).drew))
              have B2 : Hid (Blk (wr.alloc (.cells #[.string st, .int .i64 (X : Int)] 129)).drew g0 66 [.int .i64 0, .int .i64 0, .slice none 0 0]) := Lib.hid (hB.out.alloc (.cells #[.string st, .int .i64 (X : Int)] 129))
              have N2 : Hid (Blk (wr.alloc (.cells #[.string st, .int .i64 (X : Int)] 129)).drew (g0 + 1) 66 [.int .i64 2, .int .i64 0, .slice A n c]) := Lib.hid (hN.out.alloc (.cells #[.string st, .int .i64 (X : Int)] 129))
              have D2 : Hid (Row (wr.alloc (.cells #[.string st, .int .i64 (X : Int)] 129)).drew (wr.heap.size + 1) (some ⟨wr.heap.size, 0, none⟩) (erows [⟨st, (X : Int)⟩])) := Lib.hid (Row.new wr #[.string st, .int .i64 (X : Int)] 129 (0, 0) wr.heap.size rfl (Nat.lt_succ_self _))
              have Z2 : Hid (g0 + 2 ≤ (wr.alloc (.cells #[.string st, .int .i64 (X : Int)] 129)).drew.heap.size) := Lib.hid (Nat.le_trans hZ.out (by simp))
              have S2 := HS.out _ T2.out
              obtain ⟨W2, hW2⟩ : ∃ W2, W2 = (wr.alloc (.cells #[.string st, .int .i64 (X : Int)] 129)).drew := ⟨_, rfl⟩
              rw [← hW2] at T2 O2 B2 N2 D2 Z2 S2 ⊢
              obtain ⟨gx, hgx⟩ : ∃ gx, wr.heap.size = gx := ⟨_, rfl⟩
              rw [hgx] at D2 ⊢
              clear hW2 hgx
              refine hK _ _ S2 (fun _ => ?_)
              clear hK K
              refine wpAnyH_ready (rs := [18]) (by kernel_rfl) (by simp) (AllReadyH.cons rfl (fun K hK => ?_) AllReadyH.nil)
              refine step_append_ents hi hzz rfl hs hby (by kernel_rfl) (.tmp 84) (.tmp 100) (by kernel_rfl) hel.out (by kernel_rfl) O2.out ⟨gx, 0, none⟩ 1 1 [⟨st, (X : Int)⟩] rfl (by kernel_rfl) _ D2.out (by omega) Z2.out (n + 1) rfl ?_
              intro A9 c9 w9 O9 g9
              have hlo : ∀ q, (Value.slice A n c).ownBlock = some q → g0 + 2 ≤ q := fun q e => (World.ownsRow.lt O2.out q e).1
              have HO9 := Lib.hid O9
              have B9 := Lib.hid (B2.out.grown g9 (fun e => by have := hlo g0 e.symm; omega))
              have N9 := Lib.hid (N2.out.grown g9 (fun e => by have := hlo (g0 + 1) e.symm; omega))
              have H9 := Lib.hid (T2.out.grown g9 T2.out.size fun q e => by have := hlo q e; have := HG0.out; omega)
              have Z9 := Lib.hid (Nat.le_trans Z2.out g9.size)
              have S9 := HS.out _ H9.out
              have c9x : w9.cell? ⟨g0 + 1, 2, none⟩ = some (.slice A n c) := N9.out.cell 2
              have f9x := N9.out.free 2
              clear O9 g9 hlo O2 B2 N2 D2 T2 Z2
              refine hK _ _ S9 (fun _ => ?_)
              clear hK K
              refine wpAnyH_take (i := 19) (v := .pointer (some ⟨g0 + 1, 2, none⟩)) rfl (by kernel_rfl) (by kernel_rfl) (by kernel_rfl) (fun _ _ _ h => h) (Or.inl ⟨by kernel_rfl, fun w _ => by go_simp⟩) S9 ?_
              simp only [Act.put, List.getElem_toArray, List.getElem_cons_zero, List.getElem_cons_succ, List.setIfInBounds_toArray, List.set_cons_zero, List.set_cons_succ]
              refine wpAnyH_ready (rs := [20]) (by kernel_rfl) (by simp) (AllReadyH.cons rfl (fun K hK => ?_) AllReadyH.nil)
              go_simp
              have s10 : w9.grownBy (w9.setCell ⟨g0 + 1, 2, none⟩ (.slice A9 (n + 1) c9)) (some (g0 + 1)) := only_set w9 ⟨g0 + 1, 2, none⟩ (.slice A9 (n + 1) c9)
              have N10 : Hid (Blk (w9.setCell ⟨g0 + 1, 2, none⟩ (.slice A9 (n + 1) c9)) (g0 + 1) 66 [.int .i64 2, .int .i64 0, .slice A9 (n + 1) c9]) := Lib.hid (N9.out.set 2 (.slice A9 (n + 1) c9))
              have B10 := Lib.hid (B9.out.grown s10 (by simp))
              have O10 := Lib.hid (HO9.out.grown (by omega) s10)
              have H10 := Lib.hid (H9.out.grown s10 H9.out.size fun q e => by cases e; have := HG0.out; omega)
              have Z10 := Lib.hid (Nat.le_trans Z9.out s10.size)
              have S10 := HS.out _ H10.out
              refine hK _ _ S10 (fun _ => ?_)
              clear hK K
              refine wpAnyH_done (by kernel_rfl) ?_ _
              generalize w9.setCell ⟨g0 + 1, 2, none⟩ (.slice A9 (n + 1) c9) = W10 at N10 B10 O10 H10 Z10 ⊢
              clear S10 S9 S1 s10 c9x f9x N9 B9 HO9 H9 Z9
              go_wp2_with fail
              go_roundg m
              case measure => omega
              case rel => exact ⟨n + 1, p + (2 + s), n + 1, A9, c9, _, _, by omega, by go_num, by go_num, rfl, HR2, Lib.hid ⟨by omega, by omega⟩, Lib.hid (by rw [List.length_append, hel.out]; rfl), B10, N10, O10, H10, Z10, HE2⟩
            · go_simp
              have T2 := Lib.hid ((hW.out.alloc hW.out.size (.cells #[.string st, .int .i64 (X : Int)] 129)).drew)
              have O2 : Hid (OwnE (wr.alloc (.cells #[.string st, .int .i64 (X : Int)] 129)).drew (g0 + 2) (.slice A n c) es) := Lib.hid (hO.out.kept (((Below.refl wr.heap.size wr).alloc (Nat.le_refl _) (.cells #[.string st, .int .i64 (X : Int)] 129)).drew))
              have B2 : Hid (Blk (wr.alloc (.cells #[.string st, .int .i64 (X : Int)] 129)).drew g0 66 [.int .i64 0, .int .i64 0, .slice none 0 0]) := Lib.hid (hB.out.alloc (.cells #[.string st, .int .i64 (X : Int)] 129))
              have N2 : Hid (Blk (wr.alloc (.cells #[.string st, .int .i64 (X : Int)] 129)).drew (g0 + 1) 66 [.int .i64 2, .int .i64 0, .slice A n c]) := Lib.hid (hN.out.alloc (.cells #[.string st, .int .i64 (X : Int)] 129))
              have D2 : Hid (Row (wr.alloc (.cells #[.string st, .int .i64 (X : Int)] 129)).drew (wr.heap.size + 1) (some ⟨wr.heap.size, 0, none⟩) (erows [⟨st, (X : Int)⟩])) := Lib.hid (Row.new wr #[.string st, .int .i64 (X : Int)] 129 (0, 0) wr.heap.size rfl (Nat.lt_succ_self _))
              have Z2 : Hid (g0 + 2 ≤ (wr.alloc (.cells #[.string st, .int .i64 (X : Int)] 129)).drew.heap.size) := Lib.hid (Nat.le_trans hZ.out (by simp))
              have S2 := HS.out _ T2.out
              obtain ⟨W2, hW2⟩ : ∃ W2, W2 = (wr.alloc (.cells #[.string st, .int .i64 (X : Int)] 129)).drew := ⟨_, rfl⟩
              rw [← hW2] at T2 O2 B2 N2 D2 Z2 S2 ⊢
              obtain ⟨gx, hgx⟩ : ∃ gx, wr.heap.size = gx := ⟨_, rfl⟩
              rw [hgx] at D2 ⊢
              clear hW2 hgx
              refine hK _ _ S2 (fun _ => ?_)
              clear hK K
              have c52 : W2.cell? ⟨g0 + 1, 2, none⟩ = some (.slice A n c) := N2.out.cell 2
              refine wpAnyH_ready (rs := [1]) (by kernel_rfl) (by simp) (AllReadyH.cons rfl (fun K hK => ?_) AllReadyH.nil)
              go_simp
              refine hK _ _ S2 (fun _ => ?_)
              clear hK K
              refine wpAnyH_ready (rs := [18]) (by kernel_rfl) (by simp) (AllReadyH.cons rfl (fun K hK => ?_) AllReadyH.nil)
              refine step_append_ents hi hzz rfl hs hby (by kernel_rfl) (.tmp 84) (.tmp 100) (by kernel_rfl) hel.out (by kernel_rfl) O2.out ⟨gx, 0, none⟩ 1 1 [⟨st, (X : Int)⟩] rfl (by kernel_rfl) _ D2.out (by omega) Z2.out (n + 1) rfl ?_
              intro A9 c9 w9 O9 g9
              have hlo : ∀ q, (Value.slice A n c).ownBlock = some q → g0 + 2 ≤ q := fun q e => (World.ownsRow.lt O2.out q e).1
              have HO9 := Lib.hid O9
              have B9 := Lib.hid (B2.out.grown g9 (fun e => by have := hlo g0 e.symm; omega))
              have N9 := Lib.hid (N2.out.grown g9 (fun e => by have := hlo (g0 + 1) e.symm; omega))
              have H9 := Lib.hid (T2.out.grown g9 T2.out.size fun q e => by have := hlo q e; have := HG0.out; omega)
              have Z9 := Lib.hid (Nat.le_trans Z2.out g9.size)
              have S9 := HS.out _ H9.out
              have c9x : w9.cell? ⟨g0 + 1, 2, none⟩ = some (.slice A n c) := N9.out.cell 2
              have f9x := N9.out.free 2
              clear O9 g9 hlo O2 B2 N2 D2 T2 Z2
              refine hK _ _ S9 (fun _ => ?_)
              clear hK K
              refine wpAnyH_take (i := 19) (v := .pointer (some ⟨g0 + 1, 2, none⟩)) rfl (by kernel_rfl) (by kernel_rfl) (by kernel_rfl) (fun _ _ _ h => h) (Or.inl ⟨by kernel_rfl, fun w _ => by go_simp⟩) S9 ?_
              simp only [Act.put, List.getElem_toArray, List.getElem_cons_zero, List.getElem_cons_succ, List.setIfInBounds_toArray, List.set_cons_zero, List.set_cons_succ]
              refine wpAnyH_ready (rs := [20]) (by kernel_rfl) (by simp) (AllReadyH.cons rfl (fun K hK => ?_) AllReadyH.nil)
              go_simp
              have s10 : w9.grownBy (w9.setCell ⟨g0 + 1, 2, none⟩ (.slice A9 (n + 1) c9)) (some (g0 + 1)) := only_set w9 ⟨g0 + 1, 2, none⟩ (.slice A9 (n + 1) c9)
              have N10 : Hid (Blk (w9.setCell ⟨g0 + 1, 2, none⟩ (.slice A9 (n + 1) c9)) (g0 + 1) 66 [.int .i64 2, .int .i64 0, .slice A9 (n + 1) c9]) := Lib.hid (N9.out.set 2 (.slice A9 (n + 1) c9))
              have B10 := Lib.hid (B9.out.grown s10 (by simp))
              have O10 := Lib.hid (HO9.out.grown (by omega) s10)
              have H10 := Lib.hid (H9.out.grown s10 H9.out.size fun q e => by cases e; have := HG0.out; omega)
              have Z10 := Lib.hid (Nat.le_trans Z9.out s10.size)
              have S10 := HS.out _ H10.out
              refine hK _ _ S10 (fun _ => ?_)
              clear hK K
              refine wpAnyH_done (by kernel_rfl) ?_ _
              generalize w9.setCell ⟨g0 + 1, 2, none⟩ (.slice A9 (n + 1) c9) = W10 at N10 B10 O10 H10 Z10 ⊢
              clear S10 S9 S1 s10 c9x f9x N9 B9 HO9 H9 Z9
              go_wp2_with fail
              go_roundg m
              case measure => omega
              case rel => exact ⟨n + 1, p + (2 + s), n + 1, A9, c9, _, _, by omega, by go_num, by go_num, rfl, HR2, Lib.hid ⟨by omega, by omega⟩, Lib.hid (by rw [List.length_append, hel.out]; rfl), B10, N10, O10, H10, Z10, HE2⟩
          · have i10 : (N : Int) < (p : Int) + 2 + (s : Int) := by omega
            have HI : Hid (inoR D = none) := Lib.hid (HBAD.out (by rw [HEN.out.2.2]; have := HRL.out; simp; omega))
            clear HBAD HEN HDR dx dy hs' hxy
            go_wp2_with ((with_reducible refine wpl_seg_store sizeI (.tmp 2) (.tmp 76) rfl rfl hB.out 0 [.int .i64 0, .int .i64 0, .slice none 0 0] rfl (Nat.le_refl _) (by simp [Value.oneCell']) rfl rfl _ rfl ?_); intro w10 B10 g10 e10)
            refine bodyPost_ret (iret2 rfl _ B10 rfl rfl) rfl ?_
            exact ⟨⟨0, 0, []⟩, Lib.hid (by rw [HI.out]; rfl), none, 0, by rw [HI.out]; rfl, OwnE.nil _ _, hW.out.grown g10 hW.out.size (fun k e => by cases e; rw [← HG0.out]; exact Nat.le_refl _)⟩
        · have i8 : (N : Int) < (p : Int) + 2 := by omega
          have HI : Hid (inoR D = none) := Lib.hid (HBAD.out (by
            have h5 : lq.length < 2 := by have := HLL.out; omega
            match lq, h5 with
            | [], _ => simp [rBad]
            | [x], _ => simp [rBad]
            | x :: y :: r, h => simp at h; omega))
          clear HBAD
          go_wp2_with ((with_reducible refine wpl_seg_store sizeI (.tmp 2) (.tmp 76) rfl rfl hB.out 0 [.int .i64 0, .int .i64 0, .slice none 0 0] rfl (Nat.le_refl _) (by simp [Value.oneCell']) rfl rfl _ rfl ?_); intro w10 B10 g10 e10)
          refine bodyPost_ret (iret2 rfl _ B10 rfl rfl) rfl ?_
          exact ⟨⟨0, 0, []⟩, Lib.hid (by rw [HI.out]; rfl), none, 0, by rw [HI.out]; rfl, OwnE.nil _ _, hW.out.grown g10 hW.out.size (fun k e => by cases e; rw [← HG0.out]; exact Nat.le_refl _)⟩
  · have i3 : ((N : Int) == 3) = false := by rw [beq_eq_false_iff_ne]; omega
    clear h3
    go_enter Try.func46, Try.ntmps46
    go_wp2_with fail
    have H3 : Hid (Below w.heap.size w ((w.alloc (.cells #[.int .i64 0, .int .i64 0, .slice none 0 0] 66)).alloc (.cells #[.int .i64 2, .int .i64 0, .slice none 0 0] 66))) := Lib.hid (b1.out.alloc b1.out.size (.cells #[.int .i64 2, .int .i64 0, .slice none 0 0] 66))
    have B3 : Hid (Blk ((w.alloc (.cells #[.int .i64 0, .int .i64 0, .slice none 0 0] 66)).alloc (.cells #[.int .i64 2, .int .i64 0, .slice none 0 0] 66)) w.heap.size 66 [.int .i64 0, .int .i64 0, .slice none 0 0]) := Lib.hid (B1.out.alloc (.cells #[.int .i64 2, .int .i64 0, .slice none 0 0] 66))
    have hn3 := Blk.new (w.alloc (.cells #[.int .i64 0, .int .i64 0, .slice none 0 0] 66)) 66 [.int .i64 2, .int .i64 0, .slice none 0 0]
    rw [World.size_alloc] at hn3
    have N3 : Hid (Blk ((w.alloc (.cells #[.int .i64 0, .int .i64 0, .slice none 0 0] 66)).alloc (.cells #[.int .i64 2, .int .i64 0, .slice none 0 0] 66)) (w.heap.size + 1) 66 [.int .i64 2, .int .i64 0, .slice none 0 0]) := Lib.hid hn3
    have SZ3 : Hid (w.heap.size + 2 ≤ ((w.alloc (.cells #[.int .i64 0, .int .i64 0, .slice none 0 0] 66)).alloc (.cells #[.int .i64 2, .int .i64 0, .slice none 0 0] 66)).heap.size) := Lib.hid (by simp)
    generalize ((w.alloc (.cells #[.int .i64 0, .int .i64 0, .slice none 0 0] 66)).alloc (.cells #[.int .i64 2, .int .i64 0, .slice none 0 0] 66)) = W3 at H3 B3 N3 SZ3 ⊢
    obtain ⟨g0, hg0⟩ : ∃ g0, w.heap.size = g0 := ⟨_, rfl⟩
    have HG0 := Lib.hid hg0
    rw [hg0] at B3 N3 SZ3 ⊢
    clear hn3 x0 z1 B1 b1 hg0
    go_loopg [6, 7, 8] z (fun m pt i _ wx => ∃ q p n : Nat, ∃ A c, ∃ es lq, q + m = z ∧ i = .int .i64 q ∧ pt = .int .i64 p ∧ n = q ∧ Hid (lq = D.drop p) ∧ Hid (p ≤ N ∧ 2 ≤ p) ∧ Hid (es.length = n) ∧ Hid (Blk wx g0 66 [.int .i64 0, .int .i64 0, .slice none 0 0]) ∧ Hid (Blk wx (g0 + 1) 66 [.int .i64 2, .int .i64 0, .slice A n c]) ∧ Hid (OwnE wx (g0 + 2) (.slice A n c) es) ∧ Hid (Below w.heap.size w wx) ∧ Hid (g0 + 2 ≤ wx.heap.size) ∧ Hid (rEs z t false = (es ++ (rEs m lq false).1, (rEs m lq false).2)))
    case atStart => exact ⟨0, 2, 0, none, 0, [], t, by omega, rfl, rfl, rfl, Lib.hid HDT.out.symm, Lib.hid ⟨by omega, by omega⟩, Lib.hid rfl, B3, N3, Lib.hid (OwnE.nil _ _), H3, SZ3, Lib.hid rfl⟩
    case round =>
      obtain ⟨q, p, n, A, c, es, lq, hq, rfl, rfl, hnq, hlq, hp, hel, hB, hN, hO, hW, hZ, hE⟩ := hrel
      subst hnq
      have z1 : wr.cell? ⟨ad.block, ad.off + 1, none⟩ = some (.int .u8 (z : Int)) := HX1.out _ hW.out
      have HLL : Hid (p + lq.length = N) := Lib.hid (by rw [hlq.out, List.length_drop, HN.out]; have := hp.out.1; omega)
      cases gk with
      | zero =>
        obtain rfl : n = z := by omega
        have i7 : ¬ (n : Int) < (n : Int) := by omega
        have HIN2 := HIN.out
        rw [hE.out] at HIN2
        simp only [rEs, List.append_nil, true_and] at HIN2
        have HIN3 := Lib.hid HIN2
        clear hq HIN2
        by_cases hpn : p = N
        · have i8 : ((p : Int) != (N : Int)) = false := by simp; omega
          have hl0 : lq = [] := List.eq_nil_of_length_eq_zero (by have := HLL.out; omega)
          have KC := Lib.hid (irefRight_any ⟨2, 0, es⟩ (.slice A n c) wr hO.out.ents)
          obtain ⟨R, hR⟩ : ∃ R, decide (IN.ok ⟨2, 0, es⟩) = R := ⟨_, rfl⟩
          rw [hR] at KC
          have HR := Lib.hid hR
          have HI0 : Hid (inoR D = if IN.ok ⟨2, 0, es⟩ then some ⟨2, 0, es⟩ else none) := Lib.hid (by
            rw [HIN3.out, hl0]
            by_cases ho : IN.ok ⟨2, 0, es⟩
            · rw [if_pos ⟨rfl, ho⟩, if_pos ho]
            · rw [if_neg (fun h => ho h.2), if_neg ho])
          clear hR hl0 HIN3
          subst hpn
          go_wp2_with (with_reducible refine wpl_seg_load aggI sizeI (.tmp 5) rfl rfl hN.out 0 [.int .i64 2, .int .i64 0, .slice A n c] rfl rfl rfl ?_)
          refine KC.out.mono ?_
          rintro e w4 ⟨rfl, b4⟩
          have H4 := Lib.hid (hW.out.trans (b4.mono hW.out.size))
          have B4 := Lib.hid (hB.out.after b4)
          have N4 := Lib.hid (hN.out.after b4)
          have O4 := Lib.hid (hO.out.kept b4)
          clear b4 KC hB hN hO hW z1
          cases R with
          | true =>
            have HO : Hid (IN.ok ⟨2, 0, es⟩) := Lib.hid (of_decide_eq_true HR.out)
            have HI : Hid (inoR D = some ⟨2, 0, es⟩) := Lib.hid (by rw [HI0.out, if_pos HO.out])
            go_wp2_with (first
              | (with_reducible refine wpl_seg_load aggI sizeI (.tmp 5) rfl rfl N4.out 0 [.int .i64 2, .int .i64 0, .slice A n c] rfl rfl rfl ?_)
              | ((with_reducible refine wpl_seg_store sizeI (.tmp 2) (.tmp 117) rfl rfl B4.out 0 [.int .i64 2, .int .i64 0, .slice A n c] rfl (Nat.le_refl _) (by simp [Value.oneCell']) rfl rfl _ rfl ?_); intro w10 B10 g10 e10))
            refine bodyPost_ret (iret2 rfl _ B10 rfl rfl) rfl ?_
            have O10 := O4.out.grown (by omega) g10
            have hel2 := hel.out
            subst hel2
            exact ⟨⟨2, 0, es⟩, Lib.hid (by rw [HI.out]; rfl), A, c, by rw [HI.out]; rfl, O10.lower (by have := HG0.out; omega), H4.out.grown g10 H4.out.size (fun k e => by cases e; rw [← HG0.out]; exact Nat.le_refl _)⟩
          | false =>
            have HO : Hid (¬ IN.ok ⟨2, 0, es⟩) := Lib.hid (of_decide_eq_false HR.out)
            have HI : Hid (inoR D = none) := Lib.hid (by rw [HI0.out, if_neg HO.out])
            go_wp2_with ((with_reducible refine wpl_seg_store sizeI (.tmp 2) (.tmp 116) rfl rfl B4.out 0 [.int .i64 0, .int .i64 0, .slice none 0 0] rfl (Nat.le_refl _) (by simp [Value.oneCell']) rfl rfl _ rfl ?_); intro w10 B10 g10 e10)
            refine bodyPost_ret (iret2 rfl _ B10 rfl rfl) rfl ?_
            exact ⟨⟨0, 0, []⟩, Lib.hid (by rw [HI.out]; rfl), none, 0, by rw [HI.out]; rfl, OwnE.nil _ _, H4.out.grown g10 H4.out.size (fun k e => by cases e; rw [← HG0.out]; exact Nat.le_refl _)⟩
        · have i8 : ((p : Int) != (N : Int)) = true := by simp; omega
          have i9 : ¬ (p : Int) = (N : Int) := by omega
          have HI : Hid (inoR D = none) := Lib.hid (by
            rw [HIN3.out, if_neg]
            intro h
            have h2 := h.1
            have := HLL.out
            rw [h2] at this
            simp at this
            exact hpn this)
          clear HIN3 hpn
          go_wp2_with ((with_reducible refine wpl_seg_store sizeI (.tmp 2) (.tmp 116) rfl rfl hB.out 0 [.int .i64 0, .int .i64 0, .slice none 0 0] rfl (Nat.le_refl _) (by simp [Value.oneCell']) rfl rfl _ rfl ?_); intro w10 B10 g10 e10)
          refine bodyPost_ret (iret2 rfl _ B10 rfl rfl) rfl ?_
          exact ⟨⟨0, 0, []⟩, Lib.hid (by rw [HI.out]; rfl), none, 0, by rw [HI.out]; rfl, OwnE.nil _ _, hW.out.grown g10 hW.out.size (fun k e => by cases e; rw [← HG0.out]; exact Nat.le_refl _)⟩
      | succ m =>
        have i7 : (n : Int) < (z : Int) := by omega
        have up : p ≤ 1002 := by have := hp.out.1; omega
        have HBAD : Hid (rBad false lq = true → inoR D = none) := Lib.hid fun hb => by
          rw [HIN.out, hE.out]
          simp only [rEs, hb, rEs_bad]
          exact if_neg (fun h => by cases h.1)
        by_cases h2 : p + 2 ≤ N
        · have i8 : ¬ (N : Int) < (p : Int) + 2 := by omega
          obtain ⟨x, y, r, hxy⟩ : ∃ x y r, lq = x :: y :: r := by
            match lq, HLL.out with
            | [], h => simp at h; omega
            | [x], h => simp at h; omega
            | x :: y :: r, _ => exact ⟨x, y, r, rfl⟩
          have dx : D[p]? = some x := by
            have : (D.drop p)[0]? = some x := by rw [← hlq.out, hxy]; rfl
            rwa [List.getElem?_drop] at this
          have dy : D[p + 1]? = some y := by
            have : (D.drop p)[1]? = some y := by rw [← hlq.out, hxy]; rfl
            rwa [List.getElem?_drop] at this
          have HDR : Hid (D.drop (p + 2) = r) := Lib.hid (by rw [← List.drop_drop, ← hlq.out, hxy]; rfl)
          have HVr := Lib.hid (HV.out.below hW.out)
          obtain ⟨_, e, _, cx⟩ := HVr.out.at_ dx
          cases e
          obtain ⟨_, e, _, cy⟩ := HVr.out.at_ dy
          cases e
          obtain ⟨s, hs'⟩ : ∃ s, y.toNat = s := ⟨_, rfl⟩
          have us : s < 256 := by rw [← hs']; exact y.toNat_lt
          have us2 : (s : Int) < 256 := by omega
          rw [hs'] at cy
          have cy1 : wr.cell? ⟨ad.block, ad.off + (p + 1), none⟩ = some (.int .u8 (s : Int)) := by
            rw [← add_succ' ad p]
            exact cy
          have HRL : Hid (p + 2 + r.length = N) := Lib.hid (by have := HLL.out; rw [hxy] at this; simp at this; omega)
          have HEN : Hid (rEnt lq = ⟨⟨(rTake s r).toArray⟩, (x.toNat : Int)⟩ ∧ rRest lq = r.drop s ∧ rBad false lq = decide (r.length < s)) := Lib.hid (by
            rw [hxy]
            unfold rEnt rRest rBad
            simp only [List.drop_succ_cons, List.drop_zero, r1_cons, hs', List.length_cons]
            refine ⟨trivial, trivial, ?_⟩
            rw [show (decide (r.length + 1 + 1 < 1)) = false by simp, show (decide (r.length + 1 < 1)) = false by simp]
            simp)
          by_cases h4 : p + 2 + s ≤ N
          · have i10 : ¬ (N : Int) < (p : Int) + 2 + (s : Int) := by omega
            have HNB : Hid (rBad false lq = false) := Lib.hid (by rw [HEN.out.2.2]; have := HRL.out; simp; omega)
            have HTK : Hid (rTake s r = (D.drop (p + 2)).take s) := Lib.hid (by rw [HDR.out]; exact if_pos (by have := HRL.out; omega))
            obtain ⟨st, hst⟩ : ∃ st : ByteArray, ⟨((D.drop (p + 2)).take s).toArray⟩ = st := ⟨_, rfl⟩
            obtain ⟨X, hX⟩ : ∃ X, x.toNat = X := ⟨_, rfl⟩
            have uX : (X : Int) < 256 := by have := x.toNat_lt; omega
            have hcap : p + 2 + s ≤ c0 := by omega
            have plt : p < N := by omega
            obtain ⟨AA, hAA⟩ : ∃ AA : Option Addr, (if c0 = p + 2 then some ad else some (ad.add (p + 2))) = AA := ⟨_, rfl⟩
            have HAA := Lib.hid hAA
            clear hAA
            have HE2 : Hid (rEs z t false = ((es ++ [⟨st, (X : Int)⟩]) ++ (rEs m (r.drop s) false).1, (rEs m (r.drop s) false).2)) := Lib.hid (by
              rw [hE.out]
              simp only [rEs, HNB.out, HEN.out.1, HEN.out.2.1, HTK.out, hst, hX]
              rw [List.append_assoc]
              rfl)
            have HR2 : Hid (r.drop s = D.drop (p + (2 + s))) := Lib.hid (by rw [← HDR.out, List.drop_drop]; congr 1; omega)
            have c5 : wr.cell? ⟨g0 + 1, 2, none⟩ = some (.slice A n c) := hN.out.cell 2
            have HS : Hid (∀ w', Below w.heap.size w w' → w'.cell? (ad.add p) = some (.int .u8 (X : Int)) ∧ Bytes w' w'.heap.size (.slice AA s (c0 - (p + 2))) ((D.drop (p + 2)).take s)) := Lib.hid fun w' hb => by
              have hb2 := (HV.out.below hb)
              obtain ⟨_, e, _, cx'⟩ := hb2.at_ dx
              cases e
              rw [hX] at cx'
              rw [HN.out] at hb2
              exact ⟨cx', (bytes_part2 hb2 (p + 2) s (by rw [HN.out]; omega) hcap AA HAA.out).more hb.size⟩
            rw [hX] at cx
            have HST := Lib.hid hst
            have T1 := Lib.hid hW.out.drew
            have S1 := HS.out _ T1.out
            clear HBAD HEN HDR dx dy hs' hxy HTK HNB hst hX HVr HIN
            go_wp2_with fail
            refine wp_region_held_drew (S := (fun w' => w'.cell? (ad.add p) = some (.int .u8 (X : Int)) ∧ Bytes w' w'.heap.size (.slice AA s (c0 - (p + 2))) ((D.drop (p + 2)).take s))) (by kernel_rfl) S1 (fun _ => ?_)
            refine wpAnyH_take (i := 0) (v := .pointer (some ⟨g0 + 1, 2, none⟩)) rfl (by kernel_rfl) (by kernel_rfl) (by kernel_rfl) (fun _ _ _ h => h) (Or.inl ⟨by kernel_rfl, fun w _ => by go_simp⟩) S1 ?_
            simp only [Act.put, List.getElem_toArray, List.getElem_cons_zero, List.setIfInBounds_toArray, List.set_cons_zero, List.set_cons_succ]
            refine wpAnyH_take (i := 2) (v := .slice (some ad) N c0) rfl (by kernel_rfl) (by kernel_rfl) (by kernel_rfl) (fun _ _ _ h => h) (Or.inl ⟨by kernel_rfl, fun w _ => by go_simp⟩) S1 ?_
            simp only [Act.put, List.getElem_toArray, List.getElem_cons_zero, List.getElem_cons_succ, List.setIfInBounds_toArray, List.set_cons_zero, List.set_cons_succ]
            refine wpAnyH_take (i := 3) (v := .int .i64 (p : Int)) rfl (by kernel_rfl) (by kernel_rfl) (by kernel_rfl) (fun _ _ _ h => h) (Or.inl ⟨by kernel_rfl, fun w _ => by go_simp⟩) S1 ?_
            simp only [Act.put, List.getElem_toArray, List.getElem_cons_zero, List.getElem_cons_succ, List.setIfInBounds_toArray, List.set_cons_zero, List.set_cons_succ]
            refine wpAnyH_take (i := 4) (v := .pointer (some (ad.add p))) rfl (by kernel_rfl) (by kernel_rfl) (by kernel_rfl) (fun _ _ _ h => h) (Or.inl ⟨by kernel_rfl, fun w _ => by go_simp⟩) S1 ?_
            simp only [Act.put, List.getElem_toArray, List.getElem_cons_zero, List.getElem_cons_succ, List.setIfInBounds_toArray, List.set_cons_zero, List.set_cons_succ]
            refine wpAnyH_take (i := 5) (v := .int .u8 (X : Int)) rfl (by kernel_rfl) (by kernel_rfl) (by kernel_rfl) (fun _ _ _ h => h) (yields_one (ty := 5) (fun w => by kernel_rfl) (.tmp 87) (by kernel_rfl) (by kernel_rfl) (by kernel_rfl) (fun w h => h.1)) S1 ?_
            simp only [Act.put, List.getElem_toArray, List.getElem_cons_zero, List.getElem_cons_succ, List.setIfInBounds_toArray, List.set_cons_zero, List.set_cons_succ]
            refine wpAnyH_take (i := 6) (v := .int .i64 (X : Int)) rfl (by kernel_rfl) (by kernel_rfl) (by kernel_rfl) (fun _ _ _ h => h) (Or.inl ⟨by kernel_rfl, fun w _ => by go_simp; exact wrap_i64_id (by omega) (by omega)⟩) S1 ?_
            simp only [Act.put, List.getElem_toArray, List.getElem_cons_zero, List.getElem_cons_succ, List.setIfInBounds_toArray, List.set_cons_zero, List.set_cons_succ]
            refine wpAnyH_take (i := 7) (v := .slice (some ad) N c0) rfl (by kernel_rfl) (by kernel_rfl) (by kernel_rfl) (fun _ _ _ h => h) (Or.inl ⟨by kernel_rfl, fun w _ => by go_simp⟩) S1 ?_
            simp only [Act.put, List.getElem_toArray, List.getElem_cons_zero, List.getElem_cons_succ, List.setIfInBounds_toArray, List.set_cons_zero, List.set_cons_succ]
            refine wpAnyH_take (i := 8) (v := .int .i64 (p : Int)) rfl (by kernel_rfl) (by kernel_rfl) (by kernel_rfl) (fun _ _ _ h => h) (Or.inl ⟨by kernel_rfl, fun w _ => by go_simp⟩) S1 ?_
            simp only [Act.put, List.getElem_toArray, List.getElem_cons_zero, List.getElem_cons_succ, List.setIfInBounds_toArray, List.set_cons_zero, List.set_cons_succ]
            refine wpAnyH_take (i := 9) (v := .int .i64 ((p + 2 : Nat) : Int)) rfl (by kernel_rfl) (by kernel_rfl) (by kernel_rfl) (fun _ _ _ h => h) (Or.inl ⟨by kernel_rfl, fun w _ => by go_simp; exact wrap_i64_id (by omega) (by omega)⟩) S1 ?_
            simp only [Act.put, List.getElem_toArray, List.getElem_cons_zero, List.getElem_cons_succ, List.setIfInBounds_toArray, List.set_cons_zero, List.set_cons_succ]
            refine wpAnyH_take (i := 10) (v := .int .i64 (p : Int)) rfl (by kernel_rfl) (by kernel_rfl) (by kernel_rfl) (fun _ _ _ h => h) (Or.inl ⟨by kernel_rfl, fun w _ => by go_simp⟩) S1 ?_
            simp only [Act.put, List.getElem_toArray, List.getElem_cons_zero, List.getElem_cons_succ, List.setIfInBounds_toArray, List.set_cons_zero, List.set_cons_succ]
            refine wpAnyH_take (i := 11) (v := .int .i64 ((p + 2 : Nat) : Int)) rfl (by kernel_rfl) (by kernel_rfl) (by kernel_rfl) (fun _ _ _ h => h) (Or.inl ⟨by kernel_rfl, fun w _ => by go_simp; exact wrap_i64_id (by omega) (by omega)⟩) S1 ?_
            simp only [Act.put, List.getElem_toArray, List.getElem_cons_zero, List.getElem_cons_succ, List.setIfInBounds_toArray, List.set_cons_zero, List.set_cons_succ]
            refine wpAnyH_take (i := 12) (v := .int .i64 (s : Int)) rfl (by kernel_rfl) (by kernel_rfl) (by kernel_rfl) (fun _ _ _ h => h) (Or.inl ⟨by kernel_rfl, fun w _ => by go_simp⟩) S1 ?_
            simp only [Act.put, List.getElem_toArray, List.getElem_cons_zero, List.getElem_cons_succ, List.setIfInBounds_toArray, List.set_cons_zero, List.set_cons_succ]
            refine wpAnyH_take (i := 13) (v := .int .i64 ((p + 2 + s : Nat) : Int)) rfl (by kernel_rfl) (by kernel_rfl) (by kernel_rfl) (fun _ _ _ h => h) (Or.inl ⟨by kernel_rfl, fun w _ => by go_simp; exact wrap_i64_id (by omega) (by omega)⟩) S1 ?_
            simp only [Act.put, List.getElem_toArray, List.getElem_cons_zero, List.getElem_cons_succ, List.setIfInBounds_toArray, List.set_cons_zero, List.set_cons_succ]
            refine wpAnyH_take (i := 14) (v := .slice AA s (c0 - (p + 2))) rfl (by kernel_rfl) (by kernel_rfl) (by kernel_rfl) (fun _ _ _ h => h) (yields_part (.tmp 90) (.tmp 92) (.tmp 96) (by kernel_rfl) (by kernel_rfl) ad N c0 (p + 2) (p + 2 + s) (by kernel_rfl) (by kernel_rfl) (by kernel_rfl) (by omega) hcap AA HAA.out s (by omega)) S1 ?_
            simp only [Act.put, List.getElem_toArray, List.getElem_cons_zero, List.getElem_cons_succ, List.setIfInBounds_toArray, List.set_cons_zero, List.set_cons_succ]
            refine wpAnyH_take (i := 15) (v := .string st) rfl (by kernel_rfl) (by kernel_rfl) (by kernel_rfl) (fun _ _ _ h => h) (yields_strI (.tmp 97) (by kernel_rfl) (by kernel_rfl) (by kernel_rfl) st HST.out (fun w h => h.2)) S1 ?_
            simp only [Act.put, List.getElem_toArray, List.getElem_cons_zero, List.getElem_cons_succ, List.setIfInBounds_toArray, List.set_cons_zero, List.set_cons_succ]
            refine wpAnyH_take (i := 16) (v := .agg #[.string st, .int .i64 (X : Int)]) rfl (by kernel_rfl) (by kernel_rfl) (by kernel_rfl) (fun _ _ _ h => h) (Or.inl ⟨by kernel_rfl, fun w _ => by go_simp⟩) S1 ?_
            simp only [Act.put, List.getElem_toArray, List.getElem_cons_zero, List.getElem_cons_succ, List.setIfInBounds_toArray, List.set_cons_zero, List.set_cons_succ]
            refine wpAnyH_ready (rs := [1, 17]) (by kernel_rfl) (by simp) (AllReadyH.cons rfl (fun K hK => ?_) (AllReadyH.cons rfl (fun K hK => ?_) AllReadyH.nil))
            · go_simp
              refine hK _ _ S1 (fun _ => ?_)
              clear hK K
              refine wpAnyH_ready (rs := [17]) (by kernel_rfl) (by simp) (AllReadyH.cons rfl (fun K hK => ?_) AllReadyH.nil)
              go_simp
              have T2 := Lib.hid ((hW.out.alloc hW.out.size (.cells #[.string st, .int .i64 (X : Int)] 129)).drew)
              have O2 : Hid (OwnE (wr.alloc (.cells #[.string st, .int .i64 (X : Int)] 129)).drew (g0 + 2) (.slice A n c) es) := Lib.hid (hO.out.kept (((Below.refl wr.heap.size wr).alloc (Nat.le_refl _) (.cells #[.string st, .int .i64 (X : Int)] 129)).drew))
              have B2 : Hid (Blk (wr.alloc (.cells #[.string st, .int .i64 (X : Int)] 129)).drew g0 66 [.int .i64 0, .int .i64 0, .slice none 0 0]) := Lib.hid (hB.out.alloc (.cells #[.string st, .int .i64 (X : Int)] 129))
              have N2 : Hid (Blk (wr.alloc (.cells #[.string st, .int .i64 (X : Int)] 129)).drew (g0 + 1) 66 [.int .i64 2, .int .i64 0, .slice A n c]) := Lib.hid (hN.out.alloc (.cells #[.string st, .int .i64 (X : Int)] 129))
              have D2 : Hid (Row (wr.alloc (.cells #[.string st, .int .i64 (X : Int)] 129)).drew (wr.heap.size + 1) (some ⟨wr.heap.size, 0, none⟩) (erows [⟨st, (X : Int)⟩])) := Lib.hid (Row.new wr #[.string st, .int .i64 (X : Int)] 129 (0, 0) wr.heap.size rfl (Nat.lt_succ_self _))
              have Z2 : Hid (g0 + 2 ≤ (wr.alloc (.cells #[.string st, .int .i64 (X : Int)] 129)).drew.heap.size) := Lib.hid (Nat.le_trans hZ.out (by simp))
              have S2 := HS.out _ T2.out
              obtain ⟨W2, hW2⟩ : ∃ W2, W2 = (wr.alloc (.cells #[.string st, .int .i64 (X : Int)] 129)).drew := ⟨_, rfl⟩
              rw [← hW2] at T2 O2 B2 N2 D2 Z2 S2 ⊢
              obtain ⟨gx, hgx⟩ : ∃ gx, wr.heap.size = gx := ⟨_, rfl⟩
              rw [hgx] at D2 ⊢
              clear hW2 hgx
              refine hK _ _ S2 (fun _ => ?_)
              clear hK K
              refine wpAnyH_ready (rs := [18]) (by kernel_rfl) (by simp) (AllReadyH.cons rfl (fun K hK => ?_) AllReadyH.nil)
              refine step_append_ents hi hzz rfl hs hby (by kernel_rfl) (.tmp 84) (.tmp 100) (by kernel_rfl) hel.out (by kernel_rfl) O2.out ⟨gx, 0, none⟩ 1 1 [⟨st, (X : Int)⟩] rfl (by kernel_rfl) _ D2.out (by omega) Z2.out (n + 1) rfl ?_
              intro A9 c9 w9 O9 g9
              have hlo : ∀ q, (Value.slice A n c).ownBlock = some q → g0 + 2 ≤ q := fun q e => (World.ownsRow.lt O2.out q e).1
              have HO9 := Lib.hid O9
              have B9 := Lib.hid (B2.out.grown g9 (fun e => by have := hlo g0 e.symm; omega))
              have N9 := Lib.hid (N2.out.grown g9 (fun e => by have := hlo (g0 + 1) e.symm; omega))
              have H9 := Lib.hid (T2.out.grown g9 T2.out.size fun q e => by have := hlo q e; have := HG0.out; omega)
              have Z9 := Lib.hid (Nat.le_trans Z2.out g9.size)
              have S9 := HS.out _ H9.out
              have c9x : w9.cell? ⟨g0 + 1, 2, none⟩ = some (.slice A n c) := N9.out.cell 2
              have f9x := N9.out.free 2
              clear O9 g9 hlo O2 B2 N2 D2 T2 Z2
              refine hK _ _ S9 (fun _ => ?_)
              clear hK K
              refine wpAnyH_take (i := 19) (v := .pointer (some ⟨g0 + 1, 2, none⟩)) rfl (by kernel_rfl) (by kernel_rfl) (by kernel_rfl) (fun _ _ _ h => h) (Or.inl ⟨by kernel_rfl, fun w _ => by go_simp⟩) S9 ?_
              simp only [Act.put, List.getElem_toArray, List.getElem_cons_zero, List.getElem_cons_succ, List.setIfInBounds_toArray, List.set_cons_zero, List.set_cons_succ]
              refine wpAnyH_ready (rs := [20]) (by kernel_rfl) (by simp) (AllReadyH.cons rfl (fun K hK => ?_) AllReadyH.nil)
              go_simp
              have s10 : w9.grownBy (w9.setCell ⟨g0 + 1, 2, none⟩ (.slice A9 (n + 1) c9)) (some (g0 + 1)) := only_set w9 ⟨g0 + 1, 2, none⟩ (.slice A9 (n + 1) c9)
              have N10 : Hid (Blk (w9.setCell ⟨g0 + 1, 2, none⟩ (.slice A9 (n + 1) c9)) (g0 + 1) 66 [.int .i64 2, .int .i64 0, .slice A9 (n + 1) c9]) := Lib.hid (N9.out.set 2 (.slice A9 (n + 1) c9))
              have B10 := Lib.hid (B9.out.grown s10 (by simp))
              have O10 := Lib.hid (HO9.out.grown (by omega) s10)
              have H10 := Lib.hid (H9.out.grown s10 H9.out.size fun q e => by cases e; have := HG0.out; omega)
              have Z10 := Lib.hid (Nat.le_trans Z9.out s10.size)
              have S10 := HS.out _ H10.out
              refine hK _ _ S10 (fun _ => ?_)
              clear hK K
              refine wpAnyH_done (by kernel_rfl) ?_ _
              generalize w9.setCell ⟨g0 + 1, 2, none⟩ (.slice A9 (n + 1) c9) = W10 at N10 B10 O10 H10 Z10 ⊢
              clear S10 S9 S1 s10 c9x f9x N9 B9 HO9 H9 Z9
              go_wp2_with fail
              go_roundg m
              case measure => omega
              case rel => exact ⟨n + 1, p + (2 + s), n + 1, A9, c9, _, _, by omega, by go_num, by go_num, rfl, HR2, Lib.hid ⟨by omega, by omega⟩, Lib.hid (by rw [List.length_append, hel.out]; rfl), B10, N10, O10, H10, Z10, HE2⟩
            · go_simp
              have T2 := Lib.hid ((hW.out.alloc hW.out.size (.cells #[.string st, .int .i64 (X : Int)] 129)).drew)
              have O2 : Hid (OwnE (wr.alloc (.cells #[.string st, .int .i64 (X : Int)] 129)).drew (g0 + 2) (.slice A n c) es) := Lib.hid (hO.out.kept (((Below.refl wr.heap.size wr).alloc (Nat.le_refl _) (.cells #[.string st, .int .i64 (X : Int)] 129)).drew))
              have B2 : Hid (Blk (wr.alloc (.cells #[.string st, .int .i64 (X : Int)] 129)).drew g0 66 [.int .i64 0, .int .i64 0, .slice none 0 0]) := Lib.hid (hB.out.alloc (.cells #[.string st, .int .i64 (X : Int)] 129))
              have N2 : Hid (Blk (wr.alloc (.cells #[.string st, .int .i64 (X : Int)] 129)).drew (g0 + 1) 66 [.int .i64 2, .int .i64 0, .slice A n c]) := Lib.hid (hN.out.alloc (.cells #[.string st, .int .i64 (X : Int)] 129))
              have D2 : Hid (Row (wr.alloc (.cells #[.string st, .int .i64 (X : Int)] 129)).drew (wr.heap.size + 1) (some ⟨wr.heap.size, 0, none⟩) (erows [⟨st, (X : Int)⟩])) := Lib.hid (Row.new wr #[.string st, .int .i64 (X : Int)] 129 (0, 0) wr.heap.size rfl (Nat.lt_succ_self _))
              have Z2 : Hid (g0 + 2 ≤ (wr.alloc (.cells #[.string st, .int .i64 (X : Int)] 129)).drew.heap.size) := Lib.hid (Nat.le_trans hZ.out (by simp))
              have S2 := HS.out _ T2.out
              obtain ⟨W2, hW2⟩ : ∃ W2, W2 = (wr.alloc (.cells #[.string st, .int .i64 (X : Int)] 129)).drew := ⟨_, rfl⟩
              rw [← hW2] at T2 O2 B2 N2 D2 Z2 S2 ⊢
              obtain ⟨gx, hgx⟩ : ∃ gx, wr.heap.size = gx := ⟨_, rfl⟩
              rw [hgx] at D2 ⊢
              clear hW2 hgx
              refine hK _ _ S2 (fun _ => ?_)
              clear hK K
              have c52 : W2.cell? ⟨g0 + 1, 2, none⟩ = some (.slice A n c) := N2.out.cell 2
              refine wpAnyH_ready (rs := [1]) (by kernel_rfl) (by simp) (AllReadyH.cons rfl (fun K hK => ?_) AllReadyH.nil)
              go_simp
              refine hK _ _ S2 (fun _ => ?_)
              clear hK K
              refine wpAnyH_ready (rs := [18]) (by kernel_rfl) (by simp) (AllReadyH.cons rfl (fun K hK => ?_) AllReadyH.nil)
              refine step_append_ents hi hzz rfl hs hby (by kernel_rfl) (.tmp 84) (.tmp 100) (by kernel_rfl) hel.out (by kernel_rfl) O2.out ⟨gx, 0, none⟩ 1 1 [⟨st, (X : Int)⟩] rfl (by kernel_rfl) _ D2.out (by omega) Z2.out (n + 1) rfl ?_
              intro A9 c9 w9 O9 g9
              have hlo : ∀ q, (Value.slice A n c).ownBlock = some q → g0 + 2 ≤ q := fun q e => (World.ownsRow.lt O2.out q e).1
              have HO9 := Lib.hid O9
              have B9 := Lib.hid (B2.out.grown g9 (fun e => by have := hlo g0 e.symm; omega))
              have N9 := Lib.hid (N2.out.grown g9 (fun e => by have := hlo (g0 + 1) e.symm; omega))
              have H9 := Lib.hid (T2.out.grown g9 T2.out.size fun q e => by have := hlo q e; have := HG0.out; omega)
              have Z9 := Lib.hid (Nat.le_trans Z2.out g9.size)
              have S9 := HS.out _ H9.out
              have c9x : w9.cell? ⟨g0 + 1, 2, none⟩ = some (.slice A n c) := N9.out.cell 2
              have f9x := N9.out.free 2
              clear O9 g9 hlo O2 B2 N2 D2 T2 Z2
              refine hK _ _ S9 (fun _ => ?_)
              clear hK K
              refine wpAnyH_take (i := 19) (v := .pointer (some ⟨g0 + 1, 2, none⟩)) rfl (by kernel_rfl) (by kernel_rfl) (by kernel_rfl) (fun _ _ _ h => h) (Or.inl ⟨by kernel_rfl, fun w _ => by go_simp⟩) S9 ?_
              simp only [Act.put, List.getElem_toArray, List.getElem_cons_zero, List.getElem_cons_succ, List.setIfInBounds_toArray, List.set_cons_zero, List.set_cons_succ]
              refine wpAnyH_ready (rs := [20]) (by kernel_rfl) (by simp) (AllReadyH.cons rfl (fun K hK => ?_) AllReadyH.nil)
              go_simp
              have s10 : w9.grownBy (w9.setCell ⟨g0 + 1, 2, none⟩ (.slice A9 (n + 1) c9)) (some (g0 + 1)) := only_set w9 ⟨g0 + 1, 2, none⟩ (.slice A9 (n + 1) c9)
              have N10 : Hid (Blk (w9.setCell ⟨g0 + 1, 2, none⟩ (.slice A9 (n + 1) c9)) (g0 + 1) 66 [.int .i64 2, .int .i64 0, .slice A9 (n + 1) c9]) := Lib.hid (N9.out.set 2 (.slice A9 (n + 1) c9))
              have B10 := Lib.hid (B9.out.grown s10 (by simp))
              have O10 := Lib.hid (HO9.out.grown (by omega) s10)
              have H10 := Lib.hid (H9.out.grown s10 H9.out.size fun q e => by cases e; have := HG0.out; omega)
              have Z10 := Lib.hid (Nat.le_trans Z9.out s10.size)
              have S10 := HS.out _ H10.out
              refine hK _ _ S10 (fun _ => ?_)
              clear hK K
              refine wpAnyH_done (by kernel_rfl) ?_ _
              generalize w9.setCell ⟨g0 + 1, 2, none⟩ (.slice A9 (n + 1) c9) = W10 at N10 B10 O10 H10 Z10 ⊢
              clear S10 S9 S1 s10 c9x f9x N9 B9 HO9 H9 Z9
              go_wp2_with fail
              go_roundg m
              case measure => omega
              case rel => exact ⟨n + 1, p + (2 + s), n + 1, A9, c9, _, _, by omega, by go_num, by go_num, rfl, HR2, Lib.hid ⟨by omega, by omega⟩, Lib.hid (by rw [List.length_append, hel.out]; rfl), B10, N10, O10, H10, Z10, HE2⟩
          · have i10 : (N : Int) < (p : Int) + 2 + (s : Int) := by omega
            have HI : Hid (inoR D = none) := Lib.hid (HBAD.out (by rw [HEN.out.2.2]; have := HRL.out; simp; omega))
            clear HBAD HEN HDR dx dy hs' hxy
            go_wp2_with ((with_reducible refine wpl_seg_store sizeI (.tmp 2) (.tmp 76) rfl rfl hB.out 0 [.int .i64 0, .int .i64 0, .slice none 0 0] rfl (Nat.le_refl _) (by simp [Value.oneCell']) rfl rfl _ rfl ?_); intro w10 B10 g10 e10)
            refine bodyPost_ret (iret2 rfl _ B10 rfl rfl) rfl ?_
            exact ⟨⟨0, 0, []⟩, Lib.hid (by rw [HI.out]; rfl), none, 0, by rw [HI.out]; rfl, OwnE.nil _ _, hW.out.grown g10 hW.out.size (fun k e => by cases e; rw [← HG0.out]; exact Nat.le_refl _)⟩
        · have i8 : (N : Int) < (p : Int) + 2 := by omega
          have HI : Hid (inoR D = none) := Lib.hid (HBAD.out (by
            have h5 : lq.length < 2 := by have := HLL.out; omega
            match lq, h5 with
            | [], _ => simp [rBad]
            | [x], _ => simp [rBad]
            | x :: y :: r, h => simp at h; omega))
          clear HBAD
          go_wp2_with ((with_reducible refine wpl_seg_store sizeI (.tmp 2) (.tmp 76) rfl rfl hB.out 0 [.int .i64 0, .int .i64 0, .slice none 0 0] rfl (Nat.le_refl _) (by simp [Value.oneCell']) rfl rfl _ rfl ?_); intro w10 B10 g10 e10)
          refine bodyPost_ret (iret2 rfl _ B10 rfl rfl) rfl ?_
          exact ⟨⟨0, 0, []⟩, Lib.hid (by rw [HI.out]; rfl), none, 0, by rw [HI.out]; rfl, OwnE.nil _ _, hW.out.grown g10 hW.out.size (fun k e => by cases e; rw [← HG0.out]; exact Nat.le_refl _)⟩
end Go.Proofs.Ytppodbijdhcclaa


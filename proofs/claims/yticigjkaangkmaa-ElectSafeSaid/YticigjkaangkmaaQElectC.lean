/- Layer 13: whyNone, newest. No condition but that a set has 32 bytes. -/
import Derived.Test.YticigjkaangkmaaQElectB
namespace Go.Proofs.Yticigjkaangkmaa
open Go Go.RowKit
/-- one of the first k chips is hurt -/
def hurtTo (t : VV) (a b : EC) (k : Nat) : Bool := (decide (1 ≤ k) && EC.hurt t a 0) || (decide (2 ≤ k) && EC.hurt t b 1)
theorem hurtTo_succ (t : VV) (a b : EC) (k : Nat) (_ : k < 2) : hurtTo t a b (k + 1) = (hurtTo t a b k || EC.hurt t (if k = 0 then a else b) (k : Int)) := by
  rcases (show k = 0 ∨ k = 1 by omega) with rfl | rfl
  · simp [hurtTo]
  · simp [hurtTo]
theorem hurtTo_full {t : VV} {a b : EC} {k : Nat} (h : hurtTo t a b k = true) : EC.hurt t a 0 = true ∨ EC.hurt t b 1 = true := by
  unfold hurtTo at h
  simp only [Bool.or_eq_true, Bool.and_eq_true] at h
  rcases h with ⟨_, h⟩ | ⟨_, h⟩
  · exact .inl h
  · exact .inr h
set_option maxRecDepth 100000 in
set_option maxHeartbeats 4000000 in
theorem whyNone_any (t : VV) {a b : EC} (ha : a.ok) (hb : b.ok) (w : World) :
    Calls Try.prog 32 #[va t, .agg (crow a ++ crow b).toArray] w fun e w' => e = .returned (.int .i64 (if EC.hurt t a 0 = true ∨ EC.hurt t b 1 = true then 21 else 50)) ∧ Below w.heap.size w w' := by
  obtain ⟨r, hr⟩ : ∃ r : Int, (if EC.hurt t a 0 = true ∨ EC.hurt t b 1 = true then 21 else 50) = r := ⟨_, rfl⟩
  have HR := Lib.hid hr
  rw [hr]
  clear hr
  have hla := crow_len ha
  have hlb := crow_len hb
  have HIX := Lib.hid (fun (k : Nat) (hk : k < 2) (w : World) => index_pair hla hlb k hk (rc := crow (if k = 0 then a else b)) (by split <;> rfl) w)
  have HLC := Lib.hid (fun (k : Nat) => show (crow (if k = 0 then a else b)).length = 41 by split <;> assumption)
  obtain ⟨rp, hrp⟩ : ∃ rp, crow a ++ crow b = rp := ⟨_, rfl⟩
  have hlp := Lib.hid (show rp.length = 82 by rw [← hrp, List.length_append, hla, hlb])
  rw [hrp] at HIX ⊢
  have zc := zeroChip
  obtain ⟨zr, hzr⟩ : ∃ zr, crow EC.zero = zr := ⟨_, rfl⟩
  have hzl := Lib.hid (show zr.length = 41 by rw [← hzr]; exact crow_len zero_ok)
  rw [hzr] at zc
  have b1 := Lib.hid (((Below.refl w.heap.size w).alloc (Nat.le_refl _) (.cells #[.int .u64 (t.n : Int), .int .i64 t.m, .int .u64 (t.b : Int)] 24)).alloc (by simp) (.cells rp.toArray 68))
  have P1 : Hid (Blk ((w.alloc (.cells #[.int .u64 (t.n : Int), .int .i64 t.m, .int .u64 (t.b : Int)] 24)).alloc (.cells rp.toArray 68)) w.heap.size 24 [.int .u64 (t.n : Int), .int .i64 t.m, .int .u64 (t.b : Int)]) := Lib.hid ((Blk.new w _ [.int .u64 (t.n : Int), .int .i64 t.m, .int .u64 (t.b : Int)]).alloc _)
  have B1 : Hid (Blk ((w.alloc (.cells #[.int .u64 (t.n : Int), .int .i64 t.m, .int .u64 (t.b : Int)] 24)).alloc (.cells rp.toArray 68)) (w.heap.size + 1) 68 rp) := Lib.hid (by
    have h := Blk.new (w.alloc (.cells #[.int .u64 (t.n : Int), .int .i64 t.m, .int .u64 (t.b : Int)] 24)) 68 rp
    rw [World.size_alloc] at h
    exact h)
  clear hla hlb hrp hzr
  go_enter Try.func32, Try.ntmps32
  go_wp2_with (with_reducible refine wpl_seg_load aggPr sizePr (.tmp 3) rfl rfl B1.out 0 rp (by rw [List.drop_zero, List.take_of_length_le (Nat.le_of_eq hlp.out)]) hlp.out rfl ?_)
  obtain ⟨W, hW⟩ : ∃ W, W = (w.alloc (.cells #[.int .u64 (t.n : Int), .int .i64 t.m, .int .u64 (t.b : Int)] 24)).alloc (.cells rp.toArray 68) := ⟨_, rfl⟩
  obtain ⟨gt, hgt⟩ : ∃ gt, gt = w.heap.size := ⟨_, rfl⟩
  obtain ⟨gp, hgp⟩ : ∃ gp, gp = w.heap.size + 1 := ⟨_, rfl⟩
  rw [← hW] at b1 P1 B1 ⊢
  rw [← hgt] at P1
  rw [← hgp]
  rw [← hgt]
  have HGT := Lib.hid hgt
  clear hW hgt hgp B1
  go_loopw [5, 6, 8] (fun _ _ i wr => ∃ k : Nat, k ≤ 2 ∧ i = .int .i64 k ∧ Hid (hurtTo t a b k = false) ∧ Hid (Below W.heap.size W wr)) (fun _ _ i _ => 2 - (intOf i).toNat)
  case atStart => exact ⟨0, Nat.zero_le _, rfl, Lib.hid rfl, Lib.hid (Below.refl _ _)⟩
  case round =>
    obtain ⟨k, hk, rfl, hf, hb⟩ := hrel
    by_cases hlt : k < 2
    · have hix := HIX.out k hlt
      have HAS := Lib.hid (hurtTo_succ t a b k hlt)
      rw [hf.out, Bool.false_or] at HAS
      have hlc := Lib.hid (HLC.out k)
      have x2 := Lib.hid (crow_2 (if k = 0 then a else b))
      have KH := Lib.hid (fun w => holds_any13 (if k = 0 then a else b) w)
      obtain ⟨c, hc⟩ : ∃ c, (if k = 0 then a else b) = c := ⟨_, rfl⟩
      rw [hc] at hix HAS hlc x2 KH
      have HMY := Lib.hid (show EC.hurt t c (k : Int) = (c.holds && !c.n && t.has (k : Int)) from rfl)
      obtain ⟨rc, hrc⟩ : ∃ rc, crow c = rc := ⟨_, rfl⟩
      rw [hrc] at hix hlc x2 KH
      have KS := Lib.hid (fun (W : World) (n : Nat) (hn : W.heap.size = n) => has1_at t (k : Int) W n hn)
      obtain ⟨ch, hch⟩ : ∃ ch, c.holds = ch := ⟨_, rfl⟩
      obtain ⟨cn, hcn⟩ : ∃ cn, c.n = cn := ⟨_, rfl⟩
      obtain ⟨ht, hht⟩ : ∃ ht, t.has (k : Int) = ht := ⟨_, rfl⟩
      rw [hch, hcn, hht] at HMY
      rw [hch] at KH
      rw [hcn] at x2
      rw [hht] at KS
      have N1 := Lib.hid (Blk.new wr 52 zr)
      have nb1 := Lib.hid (hb.out.alloc hb.out.size (.cells zr.toArray 52))
      have HSA := Lib.hid (csegSet (hzl.out.trans hlc.out.symm))
      have HON : Hid (∀ x ∈ rc, x.oneCell' = true) := Lib.hid (by rw [← hrc]; exact crow_one c)
      have HBS := Lib.hid hb.out.size
      have HPV := Lib.hid (show ∀ w', Below W.heap.size W w' → Blk w' gt 24 [.int .u64 (t.n : Int), .int .i64 t.m, .int .u64 (t.b : Int)] from fun w' h => P1.out.below h P1.out.lt)
      clear hc hrc hch hcn hht hb hf
      go_wp2_with (first
        | ((with_reducible refine wpl_seg_store sizeC (.tmp 6) (.tmp 11) rfl rfl N1.out 0 rc hlc.out (by rw [hzl.out]; exact Nat.le_refl _) HON.out rfl rfl _ HSA.out ?_); intro w5 R5 g5 e5; have C5 := Lib.hid R5; have b5 := Lib.hid (nb1.out.grown g5 nb1.out.size (fun q e => by cases e; exact HBS.out)); clear R5 e5 g5)
        | (with_reducible refine wpl_cload (.tmp 6) rfl rfl C5.out 0 (all41 hlc.out) hlc.out rfl ?_))
      ((with_reducible refine (KH.out _).mono ?_); rintro e6 w6 ⟨rfl, h6⟩)
      have C6 := Lib.hid (C5.out.after h6)
      have b6 := Lib.hid (b5.out.trans (h6.mono b5.out.size))
      obtain ⟨gc, hgc⟩ : ∃ gc, gc = wr.heap.size := ⟨_, rfl⟩
      rw [← hgc] at C6 ⊢
      have y2 := (C6.out.cell 2).trans x2.out
      clear h6 C5 b5 N1 nb1 HBS hgc
      cases ch
      · have HY : hurtTo t a b (k + 1) = false := by rw [HAS.out, HMY.out]; simp
        go_wp2_with fail
        go_roundw
        case rel => exact ⟨k + 1, by omega, by go_num, Lib.hid HY, b6⟩
        case measure => simp [intOf]; omega
      cases cn
      · go_wp2_with (with_reducible refine wpl_vload (.tmp 2) rfl rfl (HPV.out _ b6.out) rfl ?_)
        ((with_reducible refine (KS.out w6 _ rfl).mono ?_); rintro e7 w7 ⟨rfl, h7⟩)
        have b7 := Lib.hid (b6.out.trans (h7.mono b6.out.size))
        clear h7 C6 b6 y2
        cases ht
        · have HY : hurtTo t a b (k + 1) = false := by rw [HAS.out, HMY.out]; simp
          go_wp2_with fail
          go_roundw
          case rel => exact ⟨k + 1, by omega, by go_num, Lib.hid HY, b7⟩
          case measure => simp [intOf]; omega
        · have HY : hurtTo t a b (k + 1) = true := by rw [HAS.out, HMY.out]; simp
          go_wp2_with fail
          go_ret
          exact ⟨by rw [← HR.out, if_pos (hurtTo_full HY)]; rfl, b1.out.trans (b7.out.mono b1.out.size)⟩
      · have HY : hurtTo t a b (k + 1) = false := by rw [HAS.out, HMY.out]; simp
        go_wp2_with fail
        go_roundw
        case rel => exact ⟨k + 1, by omega, by go_num, Lib.hid HY, b6⟩
        case measure => simp [intOf]; omega
    · obtain rfl : k = 2 := by omega
      go_wp2
      go_ret
      refine ⟨?_, b1.out.trans (hb.out.mono b1.out.size)⟩
      have := hf.out
      rw [← HR.out, if_neg (by
        unfold hurtTo at this
        simp at this
        rw [this.1, this.2]; simp)]
      rfl
/-- the first of the chips that may be elected, of which none else is newer -/
theorem newest_one {a b : EC} (x : Nat) (A : Option Addr) (c : Nat) (w : World) (B : Nat) (hB : B ≤ w.heap.size) (hr : Row w B A (eiv [x])) :
    Calls Try.prog 33 #[.agg (crow a ++ crow b).toArray, .slice A 1 c] w fun e w' => e = .returned (.int .i64 (x : Int)) ∧ Below w.heap.size w w' := by
  obtain ⟨rp, hrp⟩ : ∃ rp, crow a ++ crow b = rp := ⟨_, rfl⟩
  have b1 := Lib.hid ((Below.refl w.heap.size w).alloc (Nat.le_refl _) (.cells rp.toArray 68))
  obtain ⟨p, rfl, _, hc⟩ := (hr.alloc hB (.cells rp.toArray 68)).at_ (k := 0) (by simp [eiv])
  have hc0 : (w.alloc (.cells rp.toArray 68)).cell? p = some (.int .i64 (x : Int)) := by simpa [eiv, Addr.add] using hc
  rw [hrp]
  obtain ⟨W, hW⟩ : ∃ W, W = w.alloc (.cells rp.toArray 68) := ⟨_, rfl⟩
  have HW := Lib.hid hW
  rw [← hW] at b1 hc0
  clear hr hc hrp hW
  by_cases h1 : c = 1
  · subst h1
    go_enter Try.func33, Try.ntmps33
    rw [HW.out] at hc0
    go_wp2_with fail
    rw [← HW.out]
    go_loopw [5, 7, 14] (fun f _ i wr => f = .int .i64 (x : Int) ∧ i = .int .i64 0 ∧ wr = W) (fun _ _ _ _ => 0)
    case atStart => exact ⟨rfl, rfl, rfl⟩
    case round =>
      obtain ⟨rfl, rfl, rfl⟩ := hrel
      go_wp2
      go_ret
      exact ⟨rfl, b1.out⟩
  · go_enter Try.func33, Try.ntmps33
    rw [HW.out] at hc0
    go_wp2_with fail
    rw [← HW.out]
    go_loopw [5, 7, 14] (fun f _ i wr => f = .int .i64 (x : Int) ∧ i = .int .i64 0 ∧ wr = W) (fun _ _ _ _ => 0)
    case atStart => exact ⟨rfl, rfl, rfl⟩
    case round =>
      obtain ⟨rfl, rfl, rfl⟩ := hrel
      go_wp2
      go_ret
      exact ⟨rfl, b1.out⟩
theorem newest_two {a b : EC} (ha : a.ok) (A : Option Addr) (c : Nat) (hc2 : 2 ≤ c) (w : World) (B : Nat) (hB : B ≤ w.heap.size) (hr : Row w B A (eiv [0, 1])) :
    Calls Try.prog 33 #[.agg (crow a ++ crow b).toArray, .slice A 2 c] w fun e w' => e = .returned (.int .i64 (if a.e < b.e then 1 else 0)) ∧ Below w.heap.size w w' := by
  obtain ⟨z, hz⟩ : ∃ z : Int, (if a.e < b.e then 1 else 0) = z := ⟨_, rfl⟩
  have HZ := Lib.hid hz
  rw [hz]
  have hla := crow_len ha
  obtain ⟨rp, hrp⟩ : ∃ rp, crow a ++ crow b = rp := ⟨_, rfl⟩
  have y3 : rp[3]? = some (.int .u64 (a.e : Int)) := by rw [← hrp]; rfl
  have y44 : rp[44]? = some (.int .u64 (b.e : Int)) := by rw [← hrp, List.getElem?_append_right (by omega), hla]; rfl
  have b1 := Lib.hid ((Below.refl w.heap.size w).alloc (Nat.le_refl _) (.cells rp.toArray 68))
  have B1 : Blk (w.alloc (.cells rp.toArray 68)) w.heap.size 68 rp := Blk.new w _ rp
  have c3 := (B1.cell 3).trans y3
  have c44 := (B1.cell 44).trans y44
  obtain ⟨p, rfl, _, hc⟩ := (hr.alloc hB (.cells rp.toArray 68)).at_ (k := 0) (by simp [eiv])
  have hc0 : (w.alloc (.cells rp.toArray 68)).cell? p = some (.int .i64 0) := by simpa [eiv, Addr.add] using hc
  obtain ⟨p', e', _, hd⟩ := (hr.alloc hB (.cells rp.toArray 68)).at_ (k := 1) (by simp [eiv])
  obtain rfl := Option.some.inj e'
  have hd0 : (w.alloc (.cells rp.toArray 68)).cell? (p.add 1) = some (.int .i64 1) := by simpa [eiv] using hd
  rw [hrp]
  rw [show p.add 1 = (⟨p.block, p.off + 1, none⟩ : Addr) from rfl] at hd0
  have hne : ¬ c = 1 := by omega
  clear hr hc hd hrp y3 y44 hz hla B1 e'
  go_enter Try.func33, Try.ntmps33
  go_wp2_with fail
  obtain ⟨W, hW⟩ : ∃ W, W = w.alloc (.cells rp.toArray 68) := ⟨_, rfl⟩
  obtain ⟨g, hg⟩ : ∃ g, g = w.heap.size := ⟨_, rfl⟩
  rw [← hW] at b1 c3 c44 hc0 hd0 ⊢
  rw [← hg] at c3 c44 ⊢
  clear hW hg
  go_loopw [5, 7, 14] (fun f _ i wr => (f = .int .i64 0 ∧ i = .int .i64 0 ∧ wr = W) ∨ (f = .int .i64 z ∧ i = .int .i64 1 ∧ Below W.heap.size W wr)) (fun _ _ i _ => 1 - (intOf i).toNat)
  case atStart => exact .inl ⟨rfl, rfl, rfl⟩
  case round =>
    rcases hrel with ⟨rfl, rfl, rfl⟩ | ⟨rfl, rfl, hb⟩
    · by_cases hlt : a.e < b.e
      · have hz1 := Lib.hid (show z = 1 by rw [← HZ.out, if_pos hlt])
        have d1 : decide ((a.e : Int) < (b.e : Int)) = true := by simp; exact hlt
        go_wp2_with fail
        go_region
        go_wp2
        go_roundw
        case rel => exact .inr ⟨by rw [hz1.out], rfl, drewN_keep (Below.refl _ _) 1⟩
        case measure => simp [intOf]
      · have hz1 := Lib.hid (show z = 0 by rw [← HZ.out, if_neg hlt])
        have d1 : decide ((a.e : Int) < (b.e : Int)) = false := by simp; omega
        go_wp2_with fail
        go_region
        go_wp2
        go_roundw
        case rel => exact .inr ⟨by rw [hz1.out], rfl, drewN_keep (Below.refl _ _) 1⟩
        case measure => simp [intOf]
    · go_wp2
      go_ret
      exact ⟨rfl, b1.out.trans (hb.mono b1.out.size)⟩
end Go.Proofs.Yticigjkaangkmaa


/- Plain mathematics: what a page of a record reads as when one of its bits is turned, or two. No program, no condition. -/
import Derived.Test.YtnclefdlmbkjmaaDoorFrameDat
import Derived.Test.YtnclefdlmbkjmaaDoorFrameFits
namespace Go.Proofs.YtnclefdlmbkjmaaDoor.FM
open Go
theorem join256 {a b : Nat} (hb : b < 256) : b + 256 * a = (256 * a) ^^^ b := by
  apply Nat.eq_of_testBit_eq
  intro j
  have e : b + 256 * a = 2 ^ 8 * a + b := by omega
  rw [e, Nat.testBit_two_pow_mul_add a (by omega) j, Nat.testBit_xor, show 256 * a = 2 ^ 8 * a from rfl, Nat.testBit_two_pow_mul]
  by_cases h : j < 8
  · rw [if_pos h]
    simp [show ¬ j ≥ 8 by omega]
  · have h256 : 2 ^ 8 ≤ 2 ^ j := Nat.pow_le_pow_right (by decide) (by omega)
    rw [if_neg h, Nat.testBit_lt_two_pow (x := b) (i := j) (Nat.lt_of_lt_of_le hb h256)]
    simp [show j ≥ 8 by omega]
theorem pow_lt8 {k : Nat} (h : k < 8) : 2 ^ k < 256 := Nat.lt_of_lt_of_le (Nat.pow_lt_pow_right (by omega) h) (by omega)
theorem xor_lt8 {b k : Nat} (hb : b < 256) (h : k < 8) : b ^^^ 2 ^ k < 256 := Nat.xor_lt_two_pow (n := 8) hb (pow_lt8 h)
theorem chk_lo {a b k : Nat} (hb : b < 256) (h : k < 8) : (b ^^^ 2 ^ k) + 256 * a = (b + 256 * a) ^^^ 2 ^ k := by
  rw [join256 hb, join256 (xor_lt8 hb h), Nat.xor_assoc]
theorem chk_hi {a b k : Nat} (hb : b < 256) : b + 256 * (a ^^^ 2 ^ k) = (b + 256 * a) ^^^ 2 ^ (8 + k) := by
  rw [join256 hb, join256 hb]
  have e : 256 * (a ^^^ 2 ^ k) = 256 * a ^^^ 2 ^ (8 + k) := by
    have := Nat.shiftLeft_xor_distrib (a := a) (b := 2 ^ k) (i := 8)
    rw [Nat.shiftLeft_eq, Nat.shiftLeft_eq, Nat.shiftLeft_eq, ← Nat.pow_add] at this
    rw [Nat.mul_comm, show (256 : Nat) = 2 ^ 8 from rfl, this, Nat.mul_comm a, Nat.add_comm]
  rw [e, Nat.xor_assoc, Nat.xor_comm (2 ^ (8 + k)), Nat.xor_assoc]
theorem lo_mod {a j : Nat} (h : j < 13) : (a ^^^ 2 ^ j) % 8192 = a % 8192 ^^^ 2 ^ j ∧ (a ^^^ 2 ^ j) / 8192 = a / 8192 := by
  have h2 : 2 ^ j < 2 ^ 13 := Nat.pow_lt_pow_right (by omega) h
  constructor
  · have := Nat.xor_mod_two_pow (a := a) (b := 2 ^ j) (n := 13)
    rw [Nat.mod_eq_of_lt h2] at this
    exact this
  · have := Nat.shiftRight_xor_distrib (a := a) (b := 2 ^ j) (i := 13)
    rw [Nat.shiftRight_eq_div_pow, Nat.shiftRight_eq_div_pow, Nat.shiftRight_eq_div_pow, Nat.div_eq_of_lt h2, Nat.xor_zero] at this
    exact this
theorem hi_mod {a j : Nat} (h : 13 ≤ j) : (a ^^^ 2 ^ j) % 8192 = a % 8192 ∧ (a ^^^ 2 ^ j) / 8192 = a / 8192 ^^^ 2 ^ (j - 13) := by
  have h2 : 2 ^ j % 2 ^ 13 = 0 := Nat.mod_eq_zero_of_dvd (Nat.pow_dvd_pow 2 h)
  constructor
  · have := Nat.xor_mod_two_pow (a := a) (b := 2 ^ j) (n := 13)
    rw [h2, Nat.xor_zero] at this
    exact this
  · have := Nat.shiftRight_xor_distrib (a := a) (b := 2 ^ j) (i := 13)
    rw [Nat.shiftRight_eq_div_pow, Nat.shiftRight_eq_div_pow, Nat.shiftRight_eq_div_pow, Nat.pow_div h (by omega)] at this
    exact this
theorem fl_get {Q : List UInt8} (x i : Nat) (h : x / 8 ≠ i) : (HM.fl Q x).getD i 0 = Q.getD i 0 := by
  unfold HM.fl
  rw [List.getD_eq_getElem?_getD, List.getElem?_set_ne h, ← List.getD_eq_getElem?_getD]
theorem fl_at {Q : List UInt8} (x : Nat) (h : x / 8 < Q.length) : (HM.fl Q x).getD (x / 8) 0 = (Q.getD (x / 8) 0) ^^^ UInt8.ofNat (2 ^ (x % 8)) := by
  unfold HM.fl
  rw [List.getD_eq_getElem?_getD, List.getElem?_set_self h, Option.getD_some]
theorem fl_two {Q : List UInt8} (x : Nat) (h : x / 8 < Q.length) : HM.fl (HM.fl Q x) x = Q := by
  have e := fl_at x h
  show (HM.fl Q x).set (x / 8) ((HM.fl Q x).getD (x / 8) 0 ^^^ UInt8.ofNat (2 ^ (x % 8))) = Q
  rw [e, UInt8.xor_assoc, UInt8.xor_self, UInt8.xor_zero]
  unfold HM.fl
  rw [List.set_set, List.getD_eq_getElem?_getD, List.getElem?_eq_getElem h, Option.getD_some, List.set_getElem_self]
theorem fl_take {Q : List UInt8} {x : Nat} : (HM.fl Q x).take 256 = HM.tuL (Q.take 256) x := by
  unfold HM.tuL HM.fl
  by_cases h : x < 2048
  · rw [if_pos h, List.take_set]
    congr 1
    rw [List.getD_eq_getElem?_getD, List.getD_eq_getElem?_getD, List.getElem?_take, if_pos (by omega)]
  · rw [if_neg h]
    apply List.ext_getElem?
    intro i
    rw [List.getElem?_take, List.getElem?_take]
    split
    · rw [List.getElem?_set_ne (by omega)]
    · rfl
theorem fl_chk {Q : List UInt8} (hQ : Q.length = 258) {x : Nat} (hx : x < 2064) : chk (HM.fl Q x) = HM.tuC (chk Q) x := by
  have h0 := (Q.getD 256 0).toNat_lt
  unfold chk HM.tuC
  by_cases h : x < 2048
  · rw [if_pos h, fl_get x 256 (by omega), fl_get x 257 (by omega)]
  · rw [if_neg h]
    by_cases h2 : x / 8 = 256
    · have e := fl_at (Q := Q) x (by omega)
      rw [h2] at e
      rw [e, fl_get x 257 (by omega), UInt8.toNat_xor, HM.ofNat_pow _ (by omega), chk_lo h0 (by omega), show x - 2048 = x % 8 by omega]
    · have e := fl_at (Q := Q) x (by omega)
      rw [show x / 8 = 257 by omega] at e
      rw [e, fl_get x 256 (by omega), UInt8.toNat_xor, HM.ofNat_pow _ (by omega), chk_hi h0, show x - 2048 = 8 + x % 8 by omega]
theorem above_chk {Q : List UInt8} : above Q = HM.popT (chk Q / 8192) 3 := by
  have h0 := (Q.getD 256 0).toNat_lt
  unfold above chk
  congr 1
  omega
/-- a page one of whose bytes is 0 is not blank -/
theorem zero_blank {Q : List UInt8} {i : Nat} (hi : i < 258) (h : Q.getD i 0 = 0) : blank Q = false := decide_eq_false (by
  have h1 := zc_byte Q i 8 (Nat.le_refl _)
  have h2 := zc_mono Q (8 * i + 8) (2064 - (8 * i + 8))
  rw [show 8 * i + 8 + (2064 - (8 * i + 8)) = 2064 by omega] at h2
  rw [h, show HM.popT (0 : UInt8).toNat 8 = 0 by decide] at h1
  omega)
/-- what a page reads as that is not blank -/
theorem read_by {Q : List UInt8} (hb : blank Q = false) : readM Q = if 1 < HM.popT (chk Q / 8192) 3 then (0, [], 0, 21) else if (HM.fixM (Q.take 256) (chk Q % 8192)).2.2 ≠ 0 then (0, [], 0, 21) else openM (HM.fixM (Q.take 256) (chk Q % 8192)).1 ((HM.fixM (Q.take 256) (chk Q % 8192)).2.1 + HM.popT (chk Q / 8192) 3) := by
  unfold readM
  rw [if_neg (by rw [hb]; simp), above_chk, HM.fix_mod]
section
variable {kind : UInt8} {body : List UInt8}
theorem page_take (hb : body.length ≤ 240) : (page kind body).take 256 = dat kind body := by
  unfold page
  rw [List.take_append_of_le_length (by rw [dat_length kind body hb]; omega), List.take_of_length_le (by rw [dat_length kind body hb]; omega)]
theorem page_chk (hb : body.length ≤ 240) : chk (page kind body) = HM.ck (dat kind body) := by
  have hc := HM.ck_lt (dat kind body)
  have hl := dat_length kind body hb
  unfold chk page
  rw [List.getD_eq_getElem?_getD, List.getD_eq_getElem?_getD, List.getElem?_append_right (by omega), List.getElem?_append_right (by omega), hl]
  show (UInt8.ofNat _).toNat + 256 * (UInt8.ofNat _).toNat = _
  rw [UInt8.toNat_ofNat', UInt8.toNat_ofNat']
  omega
theorem page_zero (hb : body.length ≤ 240) {i : Nat} (h1 : 242 ≤ i) (h2 : i < 252) : (page kind body).getD i 0 = 0 := by
  have e : (page kind body)[i]? = (rec252 kind body)[i]? := by
    unfold page dat
    rw [List.append_assoc, List.getElem?_append_left (by rw [rec252_length kind body hb]; omega)]
  rw [List.getD_eq_getElem?_getD, e, rec_get _ _ hb, if_neg (by omega), if_neg (by omega), if_neg (by omega), if_pos h2]
  rfl
theorem open_page_dat (hb : body.length ≤ 240) (h0 : kind ≠ 0) (h1 : kind ≠ 255) (n : Nat) : openM (dat kind body) n = (kind, body, n, 0) := by
  have hl := dat_length kind body hb
  have g : ∀ i, i < 252 → (dat kind body)[i]? = (rec252 kind body)[i]? := fun i hi => by
    unfold dat
    rw [List.getElem?_append_left (by rw [rec252_length kind body hb]; omega)]
  have e0 : (dat kind body).getD 0 0 = kind := by rw [List.getD_eq_getElem?_getD, g 0 (by omega), rec_get _ _ hb]; rfl
  have e1 : (dat kind body).getD 1 0 = UInt8.ofNat body.length := by rw [List.getD_eq_getElem?_getD, g 1 (by omega), rec_get _ _ hb]; rfl
  have e2 : ((dat kind body).drop 2).take body.length = body := by
    apply List.ext_getElem?
    intro i
    rw [List.getElem?_take]
    by_cases h : i < body.length
    · rw [if_pos h, List.getElem?_drop, g (2 + i) (by omega), rec_get _ _ hb, if_neg (by omega), if_neg (by omega), if_pos (by omega), show 2 + i - 2 = i by omega]
    · rw [if_neg h, List.getElem?_eq_none (by omega)]
  have := openM_dat (dat kind body) hl n body.length (by rw [e1, UInt8.toNat_ofNat']; omega) hb (by rw [e0]; exact h0) (by rw [e0]; exact h1)
  rw [this, e0, e2, if_pos rfl]
theorem pop_one : ∀ x : Fin 3, HM.popT (2 ^ x.val) 3 = 1 := by decide
theorem pop_two : ∀ x y : Fin 3, x ≠ y → HM.popT (2 ^ x.val ^^^ 2 ^ y.val) 3 = 2 := by decide
theorem sy (D : List UInt8) : HM.par D (HM.ck D) = 0 ∧ HM.syn D (HM.ck D) = 0 := ⟨HM.ck_par D, HM.ck_syn D⟩
/-- one bit is turned -/
theorem turn_one (hb : body.length ≤ 240) (h0 : kind ≠ 0) (h1 : kind ≠ 255) {x : Nat} (hx : x < 2064) : readM (HM.fl (page kind body) x) = (kind, body, 1, 0) := by
  have hp := page_length kind body hb
  have hl := dat_length kind body hb
  have hc := HM.ck_lt (dat kind body)
  obtain ⟨s1, s2⟩ := sy (dat kind body)
  have hbk : blank (HM.fl (page kind body) x) = false := by
    by_cases h : x / 8 = 242
    · exact zero_blank (i := 243) (by omega) (by rw [fl_get x 243 (by omega), page_zero hb (by omega) (by omega)])
    · exact zero_blank (i := 242) (by omega) (by rw [fl_get x 242 h, page_zero hb (by omega) (by omega)])
  rw [read_by hbk, fl_chk hp hx, fl_take, page_take hb, page_chk hb]
  by_cases h : x < 2061
  · have e : HM.tuC (HM.ck (dat kind body)) x % 8192 = HM.tuC (HM.ck (dat kind body)) x ∧ HM.tuC (HM.ck (dat kind body)) x / 8192 = 0 := by
      unfold HM.tuC
      split
      · omega
      · have := lo_mod (a := HM.ck (dat kind body)) (j := x - 2048) (by omega)
        rw [this.1, this.2, Nat.mod_eq_of_lt hc, Nat.div_eq_of_lt hc]
        exact ⟨rfl, rfl⟩
    rw [e.1, e.2, HM.fix_one (dat kind body) (HM.ck (dat kind body)) x hl h s1 s2]
    exact open_page_dat hb h0 h1 1
  · have e : HM.tuC (HM.ck (dat kind body)) x % 8192 = HM.ck (dat kind body) ∧ HM.tuC (HM.ck (dat kind body)) x / 8192 = 2 ^ (x - 2061) := by
      unfold HM.tuC
      rw [if_neg (by omega)]
      have := hi_mod (a := HM.ck (dat kind body)) (j := x - 2048) (by omega)
      rw [this.1, this.2, Nat.mod_eq_of_lt hc, Nat.div_eq_of_lt hc, Nat.zero_xor, show x - 2048 - 13 = x - 2061 by omega]
      exact ⟨rfl, rfl⟩
    have e2 : HM.tuL (dat kind body) x = dat kind body := if_neg (by omega)
    have e3 := pop_one ⟨x - 2061, by omega⟩
    simp only at e3
    rw [e.1, e.2, e2, e3, HM.fix_clean s1 s2]
    exact open_page_dat hb h0 h1 1
theorem turn_none (hb : body.length ≤ 240) (h0 : kind ≠ 0) (h1 : kind ≠ 255) : readM (page kind body) = (kind, body, 0, 0) := by
  have hc := HM.ck_lt (dat kind body)
  obtain ⟨s1, s2⟩ := sy (dat kind body)
  rw [read_by (zero_blank (i := 242) (by omega) (page_zero hb (by omega) (by omega))), page_take hb, page_chk hb, Nat.mod_eq_of_lt hc, Nat.div_eq_of_lt hc, HM.fix_clean s1 s2]
  exact open_page_dat hb h0 h1 0
theorem tuC_lo {c x : Nat} (h : x < 2061) : HM.tuC c x % 8192 = HM.tuC (c % 8192) x ∧ HM.tuC c x / 8192 = c / 8192 := by
  unfold HM.tuC
  split
  · exact ⟨rfl, rfl⟩
  · exact lo_mod (by omega)
theorem tuC_hi {c x : Nat} (h : 2061 ≤ x) : HM.tuC c x % 8192 = c % 8192 ∧ HM.tuC c x / 8192 = c / 8192 ^^^ 2 ^ (x - 2061) := by
  unfold HM.tuC
  rw [if_neg (by omega)]
  have := hi_mod (a := c) (j := x - 2048) (by omega)
  rw [show x - 2048 - 13 = x - 2061 by omega] at this
  exact this
/-- two bits are turned -/
theorem turn_two (hb : body.length ≤ 240) (h0 : kind ≠ 0) (h1 : kind ≠ 255) {x y : Nat} (hx : x < 2064) (hy : y < 2064) (hxy : x ≠ y) : readM (HM.fl (HM.fl (page kind body) x) y) = if decide (2061 ≤ x) = decide (2061 ≤ y) then (0, [], 0, 21) else (kind, body, 2, 0) := by
  have hp := page_length kind body hb
  have hl := dat_length kind body hb
  have hc := HM.ck_lt (dat kind body)
  obtain ⟨s1, s2⟩ := sy (dat kind body)
  have hbk : blank (HM.fl (HM.fl (page kind body) x) y) = false := by
    have hz : ∀ i, 242 ≤ i → i < 252 → x / 8 ≠ i → y / 8 ≠ i → blank (HM.fl (HM.fl (page kind body) x) y) = false := fun i a b c d =>
      zero_blank (i := i) (by omega) (by rw [fl_get y i d, fl_get x i c, page_zero hb a b])
    by_cases a : x / 8 ≠ 242 ∧ y / 8 ≠ 242
    · exact hz 242 (by omega) (by omega) a.1 a.2
    · by_cases b : x / 8 ≠ 243 ∧ y / 8 ≠ 243
      · exact hz 243 (by omega) (by omega) b.1 b.2
      · exact hz 244 (by omega) (by omega) (by omega) (by omega)
  rw [read_by hbk, fl_chk (by rw [HM.fl_length, hp]) hy, fl_chk hp hx, fl_take, fl_take, page_take hb, page_chk hb]
  have hcm : HM.ck (dat kind body) % 8192 = HM.ck (dat kind body) := Nat.mod_eq_of_lt hc
  have hcd : HM.ck (dat kind body) / 8192 = 0 := Nat.div_eq_of_lt hc
  by_cases h : x < 2061
  · have ex := tuC_lo (c := HM.ck (dat kind body)) h
    by_cases k : y < 2061
    · have ey := tuC_lo (c := HM.tuC (HM.ck (dat kind body)) x) k
      rw [ey.1, ey.2, ex.1, ex.2, hcm, hcd, if_neg (by decide), HM.fix_two (dat kind body) _ x y hl h k hxy s1 s2, if_pos (by decide), if_pos (by rw [decide_eq_false (by omega), decide_eq_false (by omega)])]
    · have ey := tuC_hi (c := HM.tuC (HM.ck (dat kind body)) x) (x := y) (by omega)
      have e2 : ∀ D, HM.tuL D y = D := fun D => if_neg (by omega)
      have e3 := pop_one ⟨y - 2061, by omega⟩
      simp only at e3
      rw [ey.1, ey.2, ex.1, ex.2, hcm, hcd, e2, Nat.zero_xor, e3, if_neg (by decide), HM.fix_one (dat kind body) _ x hl h s1 s2, if_neg (fun h => h rfl), if_neg (by rw [decide_eq_false (by omega), decide_eq_true (by omega)]; decide)]
      exact open_page_dat hb h0 h1 2
  · have ex := tuC_hi (c := HM.ck (dat kind body)) (x := x) (by omega)
    have e2 : ∀ D, HM.tuL D x = D := fun D => if_neg (by omega)
    by_cases k : y < 2061
    · have ey := tuC_lo (c := HM.tuC (HM.ck (dat kind body)) x) k
      have e3 := pop_one ⟨x - 2061, by omega⟩
      simp only at e3
      rw [ey.1, ey.2, ex.1, ex.2, hcm, hcd, e2, Nat.zero_xor, e3, if_neg (by decide), HM.fix_one (dat kind body) _ y hl k s1 s2, if_neg (fun h => h rfl), if_neg (by rw [decide_eq_true (by omega), decide_eq_false (by omega)]; decide)]
      exact open_page_dat hb h0 h1 2
    · have ey := tuC_hi (c := HM.tuC (HM.ck (dat kind body)) x) (x := y) (by omega)
      have e3 := pop_two ⟨x - 2061, by omega⟩ ⟨y - 2061, by omega⟩ (by intro e; have := Fin.mk.inj e; omega)
      simp only at e3
      rw [ey.2, ex.2, hcd, Nat.zero_xor, e3, if_pos (by decide), if_pos (by rw [decide_eq_true (by omega), decide_eq_true (by omega)])]
end
end Go.Proofs.YtnclefdlmbkjmaaDoor.FM

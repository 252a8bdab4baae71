/- Several texts of the proof, joined: what each has is said at its head. -/
import Derived.Test.YtjagonoicaelmaaGreatDoorQDiskD
import Derived.Test.YtjagonoicaelmaaGreatDoorQNandF
/- All blocks of a disk in a script of a law, while the power lasts. Condition: the disk is in order; few calls so far. -/
namespace Go.Proofs.YtjagonoicaelmaaGreatDoor
open Go.RowKit
/-- what each block holds -/
def HasAll (X : DS) (N : Nat) (F : Nat → List (List UInt8)) : Prop := ∀ y, y < N - 6 → (F y).length ≤ 8 ∧ (∀ q ∈ F y, Stable q) ∧ Has (X.blk y) (F y)
def upd1 (F : Nat → List (List UInt8)) (b : Nat) (L : List (List UInt8)) : Nat → List (List UInt8) := fun y => if y = b then L else F y
def there (N : Nat) (b k : Int) : Bool := decide (0 ≤ b ∧ b < ((N - 6 : Nat) : Int) ∧ 0 ≤ k ∧ k < 8)
/-- what a Program answers, and leaves -/
def progE (N : Nat) (F : Nat → List (List UInt8)) (b k : Int) : Int := if there N b k then (if k = ((F b.toNat).length : Int) then 0 else 32) else 1
def progF (N : Nat) (F : Nat → List (List UInt8)) (b k : Int) (p : List UInt8) : Nat → List (List UInt8) := if there N b k then (if k = ((F b.toNat).length : Int) then upd1 F b.toNat (F b.toNat ++ [p]) else F) else F
def eraE (N : Nat) (b : Int) : Int := if there N b 0 then 0 else 1
def eraF (N : Nat) (F : Nat → List (List UInt8)) (b : Int) : Nat → List (List UInt8) := if there N b 0 then upd1 F b.toNat [] else F
section
variable {w w' : World} {d t : Nat} {a : At} {X : DS} {N f e K : Nat} {F : Nat → List (List UInt8)}
theorem Disk1.stepP (h : Disk1 w d t a X N f e K) (hF : HasAll X N F) (b k : Int) {p : List UInt8} (hp : Stable p) (hK : K ≤ 4000) :
    Calls Tryz.prog 88 #[.pointer (some ⟨d, 0, none⟩), .int .i64 b, .int .i64 k, .agg (cl p)] w fun er w' => er = .returned (.int .i64 (progE N F b k)) ∧ ∃ X' f' e', Disk1 w' d t a X' N f' e' (K + 5) ∧ X'.l.losses + f' + e' ≤ X.l.losses + f + e ∧ HasAll X' N (progF N F b k p) ∧ Chg w w' (a.disk t d) := by
  have hmore : ∀ {w'}, Disk1 w' d t a X N f e K → Disk1 w' d t a X N f e (K + 5) := fun q => ⟨q.dk, q.ok.more (by omega), q.on, q.last, q.u, few_le (by omega) q.few⟩
  unfold progE progF
  by_cases c : 0 ≤ b ∧ b < ((N - 6 : Nat) : Int) ∧ 0 ≤ k ∧ k < 8
  · have ct : there N b k = true := decide_eq_true c
    rw [ct]
    simp only [if_true]
    obtain ⟨bn, rfl⟩ : ∃ n : Nat, b = n := ⟨b.toNat, by omega⟩
    obtain ⟨kn, rfl⟩ : ∃ n : Nat, k = n := ⟨k.toNat, by omega⟩
    rw [Int.toNat_natCast]
    have hb : bn < N - 6 := by omega
    obtain ⟨h1, h2, h3⟩ := hF bn hb
    by_cases ck : kn = (F bn).length
    · subst ck
      rw [if_pos rfl, if_pos rfl]
      refine (h.program hb h3 (by omega) h2 hp hK).mono ?_
      rintro er w' ⟨rfl, X', f', e', q1, _, _, q4, q5, q6, _, _, q9⟩
      refine ⟨rfl, X', f', e', q1, q4, fun y hy => ?_, q9⟩
      unfold upd1
      by_cases cy : y = bn
      · subst cy
        rw [if_pos rfl]
        refine ⟨by rw [List.length_append, List.length_singleton]; omega, fun q hq => ?_, q5⟩
        rcases List.mem_append.1 hq with z | z
        · exact h2 q z
        · rw [List.mem_singleton.1 z]; exact hp
      · rw [if_neg cy, q6 y hy cy]
        exact hF y hy
    · rw [if_neg (by omega), if_neg (by omega)]
      refine (h.refused hp.1 (h.order hb (by omega) (by rw [h3.nx]; exact fun q => ck q.symm) p) hK).mono ?_
      rintro er w' ⟨rfl, q1, q2⟩
      exact ⟨rfl, X, f, e, hmore q1, Nat.le_refl _, hF, q2⟩
  · have ct : there N b k = false := decide_eq_false c
    rw [ct]
    simp only [Bool.false_eq_true, if_false]
    refine (h.refused hp.1 (h.wrong c p) hK).mono ?_
    rintro er w' ⟨rfl, q1, q2⟩
    exact ⟨rfl, X, f, e, hmore q1, Nat.le_refl _, hF, q2⟩
theorem Disk1.stepE (h : Disk1 w d t a X N f e K) (hF : HasAll X N F) (b : Int) (hK : K ≤ 4000) :
    Calls Tryz.prog 61 #[.pointer (some ⟨d, 0, none⟩), .int .i64 b] w fun er w' => er = .returned (.int .i64 (eraE N b)) ∧ ∃ X' f' e', Disk1 w' d t a X' N f' e' (K + 5) ∧ X'.l.losses + f' + e' ≤ X.l.losses + f + e ∧ HasAll X' N (eraF N F b) ∧ Chg w w' (a.disk t d) := by
  unfold eraE eraF
  by_cases c : 0 ≤ b ∧ b < ((N - 6 : Nat) : Int)
  · have ct : there N b 0 = true := decide_eq_true ⟨c.1, c.2, by omega, by omega⟩
    rw [ct]
    simp only [if_true]
    obtain ⟨bn, rfl⟩ : ∃ n : Nat, b = n := ⟨b.toNat, by omega⟩
    rw [Int.toNat_natCast]
    have hb : bn < N - 6 := by omega
    refine (h.erase hb hK).mono ?_
    rintro er w' ⟨rfl, X', f', e', q1, _, _, q4, q5, q6, q9⟩
    refine ⟨rfl, X', f', e', q1, q4, fun y hy => ?_, q9⟩
    unfold upd1
    by_cases cy : y = bn
    · subst cy
      rw [if_pos rfl]
      exact ⟨by simp, fun q hq => (by cases hq), q5⟩
    · rw [if_neg cy, q6 y hy cy]
      exact hF y hy
  · have ct : there N b 0 = false := decide_eq_false (fun q => c ⟨q.1, q.2.1⟩)
    rw [ct]
    simp only [Bool.false_eq_true, if_false]
    refine (h.noErase c hK).mono ?_
    rintro er w' ⟨rfl, q1, q2⟩
    exact ⟨rfl, X, f, e, ⟨q1.dk, q1.ok.more (by omega), q1.on, q1.last, q1.u, few_le (by omega) q1.few⟩, Nat.le_refl _, hF, q2⟩
theorem progF_other {b k : Int} {p : List UInt8} {y : Nat} (h : b ≠ (y : Int)) : progF N F b k p y = F y := by
  unfold progF
  split
  · rename_i c
    have c' := of_decide_eq_true c
    split
    · unfold upd1
      rw [if_neg (by omega)]
    · rfl
  · rfl
theorem eraF_other {b : Int} {y : Nat} (h : b ≠ (y : Int)) : eraF N F b y = F y := by
  unfold eraF
  split
  · rename_i c
    have c' := of_decide_eq_true c
    unfold upd1
    rw [if_neg (by omega)]
  · rfl
theorem hasAll_told {pr : Bool} {zs : List Int} (h : HasAll X N F) : HasAll ⟨X.S.told pr zs, X.s, X.l, X.u⟩ N F := fun y hy => by
  have e : (DS.mk (X.S.told pr zs) X.s X.l X.u).blk y = X.blk y := by unfold DS.blk Ch.bk; rw [told_bs]
  rw [e]
  exact h y hy
end
/-- the numbers of the acts that are to fail -/
theorem low3 (z : Int) {k m : Nat} (hm : m = 2 ^ k) (hk : k ≤ 16) : ∃ x : Nat, bits .and .i64 z ((m - 1 : Nat) : Int) = (x : Int) ∧ x < m := by
  have h2 : 0 < 2 ^ k := Nat.two_pow_pos k
  have hle : 2 ^ k ≤ 2 ^ 16 := Nat.pow_le_pow_right (by omega) hk
  have e : (BitVec.ofInt 64 z &&& BitVec.ofInt 64 ((m - 1 : Nat) : Int)).toNat = (z % 18446744073709551616).toNat % 2 ^ k := by
    rw [BitVec.toNat_and, BitVec.ofInt_natCast, BitVec.toNat_ofNat, Nat.mod_eq_of_lt (by omega), hm, Nat.and_two_pow_sub_one_eq_mod, BitVec.toNat_ofInt]
    rfl
  have hlt := Nat.mod_lt ((z % 18446744073709551616).toNat) h2
  refine ⟨(z % 18446744073709551616).toNat % 2 ^ k, ?_, by omega⟩
  unfold bits
  show IntKind.i64.wrap ((BitVec.ofInt 64 z &&& BitVec.ofInt 64 ((m - 1 : Nat) : Int)).toNat : Int) = _
  rw [e, IntKind.wrap_i64]
  omega
end Go.Proofs.YtjagonoicaelmaaGreatDoor

/- A bit of a disk's chip is turned. Condition: the disk is in order. -/
namespace Go.Proofs.YtjagonoicaelmaaGreatDoor
open Go.RowKit
section
variable {w : World} {d t : Nat} {a : At} {X : DS} {N f e K : Nat}
theorem Disk1.flip (h : Disk1 w d t a X N f e K) {y k x : Nat} (hy : y < N - 6) (hk : k < 8) (hx : x < 2064) :
    Calls Tryz.prog 24 #[.pointer (some ⟨a.c, 0, none⟩), .int .i64 ((X.l.at_.getD y 0 : Nat) : Int), .int .i64 (k : Int), .int .i64 (x : Int)] w fun er w' => er = .returned (.int .i64 0) ∧ ∃ X', Disk1 w' d t a X' N f e K ∧ X'.l = X.l ∧ X'.S.fp = X.S.fp ∧ X'.S.dp = X.S.dp ∧ (X'.blk y).nx = (X.blk y).nx ∧ (∀ i, (X'.blk y).pg.getD i [] = if i = k then NM.fl ((X.blk y).pg.getD k []) x else (X.blk y).pg.getD i []) ∧ Chg w w' (a.disk t d) := by
  have hsz := h.ok.sz
  have hn2 := h.ok.n2
  obtain ⟨_, h2, hnn, _⟩ := h.ok.good.here (x := y) (by omega)
  rw [hsz] at hnn
  obtain ⟨A, hA⟩ : ∃ A, A = X.l.at_.getD y 0 := ⟨_, rfl⟩
  have hlen := h.ok.fine.len
  refine (flip_any a X.S ((X.l.at_.getD y 0 : Nat) : Int) (k : Int) (x : Int) w h.dk.dev.pc).mono ?_
  rw [← hA] at hnn h2 ⊢
  have he : X.S.flip (A : Int) (k : Int) (x : Int) = ({ X.S with bs := putPage X.S.bs A k (NM.fl (pageOf X.S.bs A k) x) }, 0) := by
    unfold Ch.flip
    rw [if_neg (by unfold Ch.flipBad; omega), Int.toNat_natCast, Int.toNat_natCast, Int.toNat_natCast]
  rw [he]
  rintro er w' ⟨rfl, hP, hc⟩
  have hd := h.dk
  have hg : a.all a.g := .inl (.inr (.inl rfl))
  have hbs : ({ X.S with bs := putPage X.S.bs A k (NM.fl (pageOf X.S.bs A k) x) } : Ch).bs = X.S.bs.set A ((X.S.bk A).setPage k (NM.fl (pageOf X.S.bs A k) x)) := rfl
  have hbk := bk_set (S := X.S) (by rw [hlen]; exact hnn) hbs
  have hp8 := h.ok.fine.oks A hnn
  have D : Dev w' a { X.S with bs := putPage X.S.bs A k (NM.fl (pageOf X.S.bs A k) x) } X.s := ⟨hP, hd.dev.pw.chg hc hd.dev.pc.pg, hd.dev.tab.chg hc (fun q => hd.dev.far _ hg q.symm), hd.dev.far, hd.dev.fits⟩
  refine ⟨rfl, ⟨{ X.S with bs := putPage X.S.bs A k (NM.fl (pageOf X.S.bs A k) x) }, X.s, X.l, X.u⟩, ⟨⟨hd.blk.chg hc (fun q => hd.da (by rw [show d = a.g from q]; exact hg)), hd.tb.chg hc (fun q => hd.tb.na (by rw [show t = a.g from q]; exact hg)), D, hd.dt, hd.da, hd.good⟩, ⟨h.ok.fine.to hnn hbs rfl (h.ok.fine.bad A) (by show ((X.S.bk A).pg.set k _).length = 8; rw [List.length_set]; exact hp8) h.ok.fine.fp h.ok.fine.fe, hsz, hn2, h.ok.good, h.ok.tab.same (fun c hc => by rw [hbk, if_neg (by omega)]), h.ok.room⟩, h.on, h.last, h.u, h.few⟩, rfl, rfl, rfl, ?_, fun i => ?_, hc.more (fun k _ q => by rw [show k = a.g from q]; exact .inl hg)⟩
  · show ((DS.mk { X.S with bs := putPage X.S.bs A k (NM.fl (pageOf X.S.bs A k) x) } X.s X.l X.u).S.bk (X.l.at_.getD y 0)).nx = (X.S.bk (X.l.at_.getD y 0)).nx
    rw [← hA, hbk, if_pos rfl]
    rfl
  · show ((DS.mk { X.S with bs := putPage X.S.bs A k (NM.fl (pageOf X.S.bs A k) x) } X.s X.l X.u).S.bk (X.l.at_.getD y 0)).pg.getD i [] = _
    unfold DS.blk
    rw [← hA, hbk, if_pos rfl]
    show ((X.S.bk A).pg.set k _).getD i [] = _
    rw [getD_setP (by omega)]
    rfl
end
end Go.Proofs.YtjagonoicaelmaaGreatDoor

/- The walk of DiskOrder: it answers true, and changes nothing that was there. Condition: the table of the check sum holds its sixteen numbers. -/
namespace Go.Proofs.YtjagonoicaelmaaGreatDoor
open Go.RowKit
theorem wrap_kb (z : Int) : ∃ kb : UInt8, IntKind.u8.wrap z = ((kb.toNat : Nat) : Int) := by
  refine ⟨UInt8.ofNat (IntKind.u8.wrap z).toNat, ?_⟩
  rw [UInt8.toNat_ofNat', IntKind.wrap_u8]
  omega
theorem and_65535d (z : Int) : ∃ y : Nat, bits .and .i64 z 65535 = (y : Int) := by
  have e : (BitVec.ofInt 64 z &&& BitVec.ofInt 64 65535).toNat = (z % 18446744073709551616).toNat % 2 ^ 16 := by
    rw [BitVec.toNat_and, show (BitVec.ofInt 64 65535).toNat = 2 ^ 16 - 1 from rfl, Nat.and_two_pow_sub_one_eq_mod, BitVec.toNat_ofInt]
    rfl
  refine ⟨(z % 18446744073709551616).toNat % 2 ^ 16, ?_⟩
  unfold bits
  show IntKind.i64.wrap ((BitVec.ofInt 64 z &&& BitVec.ofInt 64 65535).toNat : Int) = _
  rw [e, IntKind.wrap_i64]
  omega
theorem low_mod (z : Int) {m : Nat} (hm : 0 < m) : ∃ x : Nat, (bits .and .i64 z 65535).tmod (m : Int) = (x : Int) ∧ x < m := by
  obtain ⟨y, hy⟩ := and_65535d z
  rw [hy]
  have h1 := Nat.mod_lt y hm
  exact ⟨y % m, by rw [Int.tmod_eq_emod_of_nonneg (by omega)]; omega, h1⟩
/-- the element of a slice of numbers, in a later world -/
theorem nums_at {w w' : World} {B c : Nat} {A : Option Addr} {zs : List Int} (h : Nums w B .i64 (.slice A zs.length c) zs) {q : Nat} (hq : q < zs.length) (hb : Below B w w') : ∃ p, A = some p ∧ ∃ z, w'.cell? (p.add q) = some (.int .i64 z) := by
  obtain ⟨A', cap', ev, _, _, hrow, _⟩ := h
  obtain ⟨rfl, _, rfl⟩ := Value.slice.inj ev
  obtain ⟨p2, rfl, hab, hcell⟩ := hrow.at_ (k := q) (by simpa using hq)
  refine ⟨p2, rfl, zs[q], ?_⟩
  have h1 := (hb.cell (p := p2.add q) (by rw [add_block]; exact hab)).trans hcell
  rw [List.getElem_map] at h1
  exact h1
end Go.Proofs.YtjagonoicaelmaaGreatDoor


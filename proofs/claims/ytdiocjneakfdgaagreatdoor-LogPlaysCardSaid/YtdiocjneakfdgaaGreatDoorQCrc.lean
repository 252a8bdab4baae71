/- Several texts of the proof, joined: what each has is said at its head. -/
import Derived.Below
import Derived.Test.YtdiocjneakfdgaaGreatDoorProg
import Derived.Test.YtdiocjneakfdgaaGreatDoorQCore
import Derived.Lib.LaidTab
/- The plain mathematics of the check sum: one bit's step is linear over xor and loses nothing, four bits' steps are the table's, eight are the byte's. No condition. -/
namespace Go.Proofs.YtdiocjneakfdgaaGreatDoor.CM

def T (n : Nat) : Nat := n / 2 ^^^ (n % 2 * 3988292384)
def Tn : Nat → Nat → Nat
  | 0, x => x
  | k + 1, x => T (Tn k x)

theorem xor_xor_xor_comm (a b c d : Nat) : (a ^^^ b) ^^^ (c ^^^ d) = (a ^^^ c) ^^^ (b ^^^ d) := by
  rw [Nat.xor_assoc, Nat.xor_assoc, ← Nat.xor_assoc b, Nat.xor_comm b c, Nat.xor_assoc c]

theorem T0 {n : Nat} (h : n % 2 = 0) : T n = n / 2 := by simp [T, h]
theorem T1 {n : Nat} (h : n % 2 = 1) : T n = n / 2 ^^^ 3988292384 := by simp [T, h]
theorem par (n : Nat) : n % 2 = 0 ∨ n % 2 = 1 := by omega
theorem xor_par {a b : Nat} : (a ^^^ b) % 2 = 1 ↔ ¬(a % 2 = 1 ↔ b % 2 = 1) := Nat.xor_mod_two_eq_one
theorem xor_par0 {a b : Nat} (h : a % 2 = b % 2) : (a ^^^ b) % 2 = 0 := by
  have := @xor_par a b
  rcases par (a ^^^ b) with e | e
  · exact e
  · exact absurd (by rw [h]) (this.1 e)
theorem xor_par1 {a b : Nat} (h : a % 2 ≠ b % 2) : (a ^^^ b) % 2 = 1 := by
  have := @xor_par a b
  refine this.2 fun e => h ?_
  rcases par a with ha | ha <;> rcases par b with hb | hb <;> simp [ha, hb] at e ⊢
theorem T_xor (a b : Nat) : T (a ^^^ b) = T a ^^^ T b := by
  rcases par a with ha | ha <;> rcases par b with hb | hb
  · rw [T0 (xor_par0 (by omega)), T0 ha, T0 hb, Nat.xor_div_two]
  · rw [T1 (xor_par1 (by omega)), T0 ha, T1 hb, Nat.xor_div_two, Nat.xor_assoc]
  · rw [T1 (xor_par1 (by omega)), T1 ha, T0 hb, Nat.xor_div_two, Nat.xor_assoc, Nat.xor_assoc, Nat.xor_comm (b / 2)]
  · rw [T0 (xor_par0 (by omega)), T1 ha, T1 hb, Nat.xor_div_two, xor_xor_xor_comm, Nat.xor_self, Nat.xor_zero]
theorem T_lt {a : Nat} (h : a < 4294967296) : T a < 4294967296 := by
  have h2 : a / 2 < 2 ^ 32 := by omega
  rcases par a with ha | ha
  · rw [T0 ha]; omega
  · rw [T1 ha]; exact Nat.xor_lt_two_pow (n := 32) h2 (by decide)
theorem Tn_xor (k a b : Nat) : Tn k (a ^^^ b) = Tn k a ^^^ Tn k b := by
  induction k with
  | zero => rfl
  | succ k ih => simp only [Tn, ih, T_xor]
theorem Tn_lt (k : Nat) {a : Nat} (h : a < 4294967296) : Tn k a < 4294967296 := by
  induction k with
  | zero => exact h
  | succ k ih => exact T_lt ih
theorem Tn_add (j k a : Nat) : Tn (j + k) a = Tn j (Tn k a) := by
  induction j with
  | zero => simp [Tn]
  | succ j ih => rw [Nat.add_right_comm]; simp only [Tn, ih]
theorem T_two (m : Nat) : T (2 * m) = m := by
  rw [T0 (by omega)]; omega
theorem Tn_pow (k m : Nat) : Tn k (2 ^ k * m) = m := by
  induction k generalizing m with
  | zero => simp [Tn]
  | succ k ih =>
    have : Tn (k + 1) (2 ^ (k + 1) * m) = T (Tn k (2 ^ k * (2 * m))) := by
      rw [show 2 ^ (k + 1) * m = 2 ^ k * (2 * m) by rw [Nat.pow_succ, Nat.mul_assoc]]; rfl
    rw [this, ih, T_two]
/-- four bits at a time -/
def nibs : List Nat := [0, 498536548, 997073096, 651767980, 1994146192, 1802195444, 1303535960, 1342533948, 3988292384, 4027552580, 3604390888, 3412177804, 2607071920, 2262029012, 2685067896, 3183342108]
theorem nibs_eq : ∀ r, r < 16 → nibs.getD r 0 = Tn 4 r := by decide
theorem split16 (x : Nat) : x = (16 * (x / 16)) ^^^ (x % 16) := by
  apply Nat.eq_of_testBit_eq
  intro i
  rw [Nat.testBit_xor]
  have e : x = 2 ^ 4 * (x / 16) + x % 16 := by omega
  have h1 := Nat.testBit_two_pow_mul_add (x / 16) (i := 4) (b := x % 16) (by omega) i
  have h2 := Nat.testBit_two_pow_mul_add (x / 16) (i := 4) (b := 0) (by omega) i
  rw [← e] at h1
  rw [show 16 * (x / 16) = 2 ^ 4 * (x / 16) + 0 by omega, h1, h2]
  by_cases hi : i < 4
  · simp [hi]
  · have : (x % 16).testBit i = false := Nat.testBit_lt_two_pow (Nat.lt_of_lt_of_le (show x % 16 < 2 ^ 4 by omega) (Nat.pow_le_pow_right (by omega) (by omega)))
    simp [hi, this]
theorem nib_step (x : Nat) : x / 16 ^^^ nibs.getD (x % 16) 0 = Tn 4 x := by
  have h := congrArg (Tn 4) (split16 x)
  rw [Tn_xor, Tn_pow 4 (x / 16)] at h
  rw [nibs_eq _ (by omega)]
  exact h.symm

/-- one byte -/
def bst (x b : Nat) : Nat := Tn 8 (x ^^^ b)
theorem bst_eq (x b : Nat) : bst x b = Tn 4 (Tn 4 (x ^^^ b)) := Tn_add 4 4 _
theorem bst_lt {x b : Nat} (hx : x < 4294967296) (hb : b < 256) : bst x b < 4294967296 :=
  Tn_lt 8 (Nat.xor_lt_two_pow (n := 32) hx (by omega))
def fold (x : Nat) (l : List UInt8) : Nat := l.foldl (fun x b => bst x b.toNat) x
theorem fold_append (x : Nat) (l m : List UInt8) : fold x (l ++ m) = fold (fold x l) m := List.foldl_append
theorem fold_snoc (x : Nat) (l : List UInt8) (b : UInt8) : fold x (l ++ [b]) = bst (fold x l) b.toNat := by rw [fold_append]; rfl
theorem fold_lt {x : Nat} (hx : x < 4294967296) (l : List UInt8) : fold x l < 4294967296 := by
  induction l generalizing x with
  | nil => exact hx
  | cons b l ih => exact ih (bst_lt hx b.toNat_lt)
/-- a check sum goes on over l -/
def on (s : Nat) (l : List UInt8) : Nat := 4294967295 ^^^ fold (4294967295 ^^^ s) l
theorem not_lt {s : Nat} (h : s < 4294967296) : 4294967295 ^^^ s < 4294967296 := Nat.xor_lt_two_pow (n := 32) (by decide) h
theorem on_lt {s : Nat} (h : s < 4294967296) (l : List UInt8) : on s l < 4294967296 := not_lt (fold_lt (not_lt h) l)
/-- bit by bit: what stands behind k bits of one byte -/
def mid (c b k : Nat) : Nat := Tn k (c ^^^ b) ^^^ b / 2 ^ k
/-- no two bits of so short a text weigh the same -/
def chk : Nat → Nat → Bool
  | 0, _ => true
  | k + 1, x => !(Nat.beq (T x) 1) && chk k (T x)
end Go.Proofs.YtdiocjneakfdgaaGreatDoor.CM

/- The contract of the check sum's On and Sum: over any parts they answer the division's rest, and change nothing. Condition: the table holds its sixteen numbers. -/
namespace Go.Proofs.YtdiocjneakfdgaaGreatDoor
open Go.RowKit

theorem u32x (a b : Nat) (ha : a < 4294967296) (hb : b < 4294967296) : bits .xor .u32 (a : Int) (b : Int) = ((a ^^^ b : Nat) : Int) := u32_xor_nat a b ha hb
/-- the table -/
def Tab (w : World) : Prop := ∀ r, r < 16 → w.cell? ⟨0, r, none⟩ = some (.int .u32 ((CM.nibs.getD r 0 : Nat) : Int))

theorem Tab.below {w w' : World} {B : Nat} (h : Tab w) (hb : Below B w w') (hB : 0 < B) : Tab w' := fun r hr => (hb.cell (p := ⟨0, r, none⟩) hB).trans (h r hr)
theorem Tab.lt {w : World} (h : Tab w) : 0 < w.heap.size := World.block_lt_of_cell? w _ (h 0 (by omega))
theorem notu (a : Nat) (ha : a < 4294967296) : bits .xor .u32 IntKind.u32.max (a : Int) = ((4294967295 ^^^ a : Nat) : Int) := u32_xor_nat 4294967295 a (by omega) ha
theorem andu15 (a : Nat) (ha : a < 4294967296) : bits .and .u32 (a : Int) 15 = ((a % 16 : Nat) : Int) := by
  have := u32_and_nat a 15 ha (by omega)
  rw [show a &&& 15 = a % 16 from Nat.and_two_pow_sub_one_eq_mod a 4] at this
  exact this

theorem tab_step {w : World} (ht : Tab w) (z : Nat) (hz : z < 4294967296) :
    ∃ r n : Nat, bits .and .u32 (z : Int) 15 = (r : Int) ∧ w.cell? ⟨0, r, none⟩ = some (.int .u32 (n : Int)) ∧ r < 16 ∧ bits .xor .u32 ((z : Int) / 16) (n : Int) = ((CM.Tn 4 z : Nat) : Int) := by
  have hn : CM.nibs.getD (z % 16) 0 < 4294967296 := by
    rw [CM.nibs_eq _ (by omega)]; exact CM.Tn_lt 4 (by omega)
  refine ⟨z % 16, CM.nibs.getD (z % 16) 0, andu15 z hz, ht _ (by omega), by omega, ?_⟩
  rw [show ((z : Int) / 16) = ((z / 16 : Nat) : Int) from by omega, u32x _ _ (by omega) hn, CM.nib_step]
theorem steps {w : World} (ht : Tab w) (Y b : Nat) (hY : Y < 4294967296) (hb : b < 256) :
    ∃ z r1 n1 z2 r2 n2 z3 : Nat, bits .xor .u32 (Y : Int) (b : Int) = (z : Int) ∧
      bits .and .u32 (z : Int) 15 = (r1 : Int) ∧ w.cell? ⟨0, r1, none⟩ = some (.int .u32 (n1 : Int)) ∧ r1 < 16 ∧ bits .xor .u32 ((z : Int) / 16) (n1 : Int) = (z2 : Int) ∧
      bits .and .u32 (z2 : Int) 15 = (r2 : Int) ∧ w.cell? ⟨0, r2, none⟩ = some (.int .u32 (n2 : Int)) ∧ r2 < 16 ∧ bits .xor .u32 ((z2 : Int) / 16) (n2 : Int) = (z3 : Int) ∧ Hid (z3 = CM.bst Y b) := by
  have hz : Y ^^^ b < 4294967296 := Nat.xor_lt_two_pow (n := 32) hY (by omega)
  obtain ⟨r1, n1, a1, a2, a3, a4⟩ := tab_step ht (Y ^^^ b) hz
  obtain ⟨r2, n2, b1, b2, b3, b4⟩ := tab_step ht (CM.Tn 4 (Y ^^^ b)) (CM.Tn_lt 4 hz)
  exact ⟨_, r1, n1, _, r2, n2, _, u32x Y b hY (by omega), a1, a2, a3, a4, b1, b2, b3, b4, (CM.bst_eq Y b).symm⟩

set_option maxHeartbeats 1000000 in
theorem on_any (s : Nat) (hs : s < 4294967296) (A : Option Addr) (c : Nat) (vs : List Value) (L : List (List UInt8)) (w : World) (B : Nat) (ht : Tab w) (hr : Row w B A vs) (he : Each w B vs L) (hlen : vs.length ≤ maxLen) :
    Calls Tryz.prog 112 #[.int .u32 (s : Int), .slice A vs.length c] w fun e w' => e = .returned (.int .u32 (CM.on s L.flatten : Int)) ∧ w = w' := by
  unfold maxLen at hlen
  have x0 := notu s hs
  have hN : CM.fold (4294967295 ^^^ s) ([] : List UInt8) < 4294967296 := CM.fold_lt (CM.not_lt hs) _
  go_enter Tryz.func112, Tryz.ntmps112
  go_wp2
  have HX := Lib.hid x0
  clear x0
  go_loop [5, 14] (fun r i => ∃ k : Nat, k ≤ vs.length ∧ i = .int .i64 k ∧ r = .int .u32 ((CM.fold (4294967295 ^^^ s) (L.take k).flatten : Nat) : Int)) (fun _ i => vs.length - (intOf i).toNat)
  case atStart => exact ⟨0, Nat.zero_le _, rfl, rfl⟩
  case round =>
    obtain ⟨k, hk, rfl, rfl⟩ := hrel
    by_cases hlt : k < vs.length
    · obtain ⟨a, rfl, hab, hcell⟩ := hr.at_ hlt
      obtain ⟨l, hl, Ai, ci, hv, hlc, hcm, hrow⟩ := he.at_ hlt
      rw [hv] at hcell
      have HV := Lib.hid hv
      have HL := Lib.hid hl
      clear hv hl
      unfold maxLen at hcm
      obtain ⟨X, hX⟩ : ∃ X, X = CM.fold (4294967295 ^^^ s) (L.take k).flatten := ⟨_, rfl⟩
      have hX32 : X < 4294967296 := by rw [hX]; exact CM.fold_lt (CM.not_lt hs) _
      rw [← hX]
      have HXX := Lib.hid hX
      clear hX
      go_wp2
      go_loop [5, 20] (fun r i => ∃ j : Nat, j ≤ l.length ∧ i = .int .i64 j ∧ r = .int .u32 ((CM.fold X (l.take j) : Nat) : Int)) (fun _ i => l.length - (intOf i).toNat)
      case atStart => exact ⟨0, Nat.zero_le _, rfl, rfl⟩
      case round =>
        obtain ⟨j, hj, rfl, rfl⟩ := hrel
        by_cases hjl : j < l.length
        · obtain ⟨a2, rfl, ha2, hcell2⟩ := hrow.at_ (k := j) (by rw [bv_length]; exact hjl)
          have hb : (bv l)[j]? = some (.int .u8 (l[j].toNat : Int)) := bv_get hjl
          rw [List.getElem?_eq_getElem (by rw [bv_length]; exact hjl)] at hb
          rw [Option.some.inj hb] at hcell2
          clear hb
          have hY32 : CM.fold X (l.take j) < 4294967296 := CM.fold_lt hX32 _
          obtain ⟨Y, hY⟩ : ∃ Y, Y = CM.fold X (l.take j) := ⟨_, rfl⟩
          rw [← hY] at hY32 ⊢
          have hbl : l[j].toNat < 256 := l[j].toNat_lt
          obtain ⟨b, hb⟩ : ∃ b, b = l[j].toNat := ⟨_, rfl⟩
          rw [← hb] at hcell2 hbl
          have HB := Lib.hid hb
          have HY := Lib.hid hY
          clear hb hY
          obtain ⟨z, r1, n1, z2, r2, n2, z3, f1, f2, c1, q1, f3, f4, c2, q2, f5, hz3⟩ := steps ht Y b hY32 hbl
          go_wp2
          clear f1 f2 c1 f3 f4 c2 f5
          go_round
          case rel => exact ⟨j + 1, by omega, by go_num, by rw [hz3.out, HY.out, HB.out, take_snoc l (List.getElem?_eq_getElem hjl), CM.fold_snoc]⟩
          case measure => simp [intOf]; omega
        · obtain rfl : j = l.length := by omega
          go_wp2
          go_round
          case rel => exact ⟨k + 1, by omega, by go_num, by rw [take_snoc L HL.out, List.flatten_append, CM.fold_append, ← HXX.out]; simp⟩
          case measure => simp [intOf]; omega
    · obtain rfl : k = vs.length := by omega
      have hX32 : CM.fold (4294967295 ^^^ s) L.flatten < 4294967296 := CM.fold_lt (CM.not_lt hs) _
      rw [he.1, List.take_length]
      have x1 := notu _ hX32
      go_wp2
      go_ret
      exact ⟨rfl, rfl⟩
end Go.Proofs.YtdiocjneakfdgaaGreatDoor

/- The contracts of crc.Sum and of the document's own On: both answer the division's rest, and change nothing. Condition: the table holds its sixteen numbers (Sum alone). -/
namespace Go.Proofs.YtdiocjneakfdgaaGreatDoor
open Go.RowKit

theorem on_call (s : Nat) (hs : s < 4294967296) (v : Value) (l : List UInt8) (w : World) (B : Nat) (ht : Tab w) (hp : Joined w B v l) :
    Calls Tryz.prog 112 #[.int .u32 (s : Int), v] w fun e w' => e = .returned (.int .u32 (CM.on s l : Int)) ∧ w = w' := by
  obtain ⟨L, ⟨A, c, vs, rfl, hr, he, hlen⟩, rfl⟩ := hp
  exact on_any s hs A c vs L w B ht hr he hlen
theorem sum_call (v : Value) (l : List UInt8) (w : World) (B : Nat) (ht : Tab w) (hp : Joined w B v l) :
    Calls Tryz.prog 82 #[v] w fun e w' => e = .returned (.int .u32 (CM.on 0 l : Int)) ∧ w = w' := by
  have H := Lib.hid ht
  have HP := Lib.hid hp
  clear ht hp
  go_enter Tryz.func82, Tryz.ntmps82
  go_wp2_with fail
  refine (on_call 0 (by omega) v l w B H.out HP.out).mono ?_
  rintro e w' ⟨rfl, rfl⟩
  go_wp2
  go_ret
  exact ⟨rfl, rfl⟩

end Go.Proofs.YtdiocjneakfdgaaGreatDoor


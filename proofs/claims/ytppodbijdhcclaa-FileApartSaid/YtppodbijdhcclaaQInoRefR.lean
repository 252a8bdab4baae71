/- What the document's Read of an inode answers. No condition but that the bytes are there. -/
import Derived.Test.YtppodbijdhcclaaQInoJB
import Derived.Test.YtppodbijdhcclaaQCore
namespace Go.Proofs.Ytppodbijdhcclaa
open Go.RowKit
theorem Bytes.at_ {w : World} {B : Nat} {A : Option Addr} {n c : Nat} {l : List UInt8} (h : Bytes w B (.slice A n c) l) {k : Nat} {b : UInt8} (hk : l[k]? = some b) : ∃ a, A = some a ∧ a.block < B ∧ w.cell? (a.add k) = some (.int .u8 (b.toNat : Int)) := by
  obtain ⟨_, _, e, _, _, hr⟩ := h
  cases e
  obtain ⟨a, e, hb, hc⟩ := hr k (.int .u8 (b.toNat : Int)) (by rw [bv, List.getElem?_map, hk]; rfl)
  exact ⟨a, e, hb, hc⟩
set_option maxRecDepth 100000 in
set_option maxHeartbeats 8000000 in
theorem refRead_short (v : Value) (l : List UInt8) (w : World) (hv : Bytes w w.heap.size v l) (hl : l.length < 2) :
    Calls Try.prog 46 #[v] w fun x w' => x = .returned (.tuple #[.agg #[.int .i64 0, .int .i64 0, .slice none 0 0], .int .i64 11]) ∧ Below w.heap.size w w' := by
  obtain ⟨A0, c0, rfl, hc, hm, hr⟩ := hv
  have b1 := Lib.hid ((Below.refl w.heap.size w).alloc (Nat.le_refl _) (.cells #[.int .i64 0, .int .i64 0, .slice none 0 0] 66))
  have B1 := Lib.hid (Blk.new w 66 [.int .i64 0, .int .i64 0, .slice none 0 0])
  have i3 : ((l.length : Int) == 3) = false := by rw [beq_eq_false_iff_ne]; omega
  have i2 : (l.length : Int) < 2 := by omega
  clear hr hm
  go_enter Try.func46, Try.ntmps46
  go_wp2_with ((with_reducible refine wpl_seg_store sizeI (.tmp 2) (.tmp 47) rfl rfl B1.out 0 [.int .i64 0, .int .i64 0, .slice none 0 0] rfl (Nat.le_refl _) (by simp [Value.oneCell']) rfl rfl _ rfl ?_); intro w10 B10 g10 e10)
  refine bodyPost_ret (iret2 rfl _ B10 rfl rfl) rfl ?_
  exact ⟨rfl, b1.out.grown g10 b1.out.size (fun k e => by cases e; exact Nat.le_refl _)⟩
set_option maxRecDepth 100000 in
set_option maxHeartbeats 8000000 in
theorem refRead_kind (v : Value) (a b : UInt8) (t : List UInt8) (w : World) (hv : Bytes w w.heap.size v (a :: b :: t)) (ha : a.toNat ≠ 2 ∨ 8 < b.toNat) (h1 : ¬ (a.toNat = 1 ∧ t.length = 1)) :
    Calls Try.prog 46 #[v] w fun x w' => x = .returned (.tuple #[.agg #[.int .i64 0, .int .i64 0, .slice none 0 0], .int .i64 11]) ∧ Below w.heap.size w w' := by
  have HV := Lib.hid hv
  obtain ⟨A0, c0, rfl, hc, hm, hr⟩ := hv
  obtain ⟨ad, rfl, hab, x0⟩ := HV.out.at_ (k := 0) (b := a) rfl
  obtain ⟨_, e, _, x1⟩ := HV.out.at_ (k := 1) (b := b) rfl
  cases e
  rw [show ad.add 0 = ad by simp [Addr.add]] at x0
  have b1 := Lib.hid ((Below.refl w.heap.size w).alloc (Nat.le_refl _) (.cells #[.int .i64 0, .int .i64 0, .slice none 0 0] 66))
  have B1 := Lib.hid (Blk.new w 66 [.int .i64 0, .int .i64 0, .slice none 0 0])
  obtain ⟨N, hN⟩ : ∃ N, (a :: b :: t).length = N := ⟨_, rfl⟩
  have hN2 : N = t.length + 2 := by rw [← hN]; simp
  obtain ⟨x, hx⟩ : ∃ x, a.toNat = x := ⟨_, rfl⟩
  obtain ⟨z, hz⟩ : ∃ z, b.toNat = z := ⟨_, rfl⟩
  have hx2 : x < 256 := by rw [← hx]; exact a.toNat_lt
  have hz2 : z < 256 := by rw [← hz]; exact b.toNat_lt
  rw [hx] at ha h1
  rw [hz] at ha
  rw [hN]
  have i2 : ¬ (N : Int) < 2 := by omega
  have u0 : 1 < N := by omega
  rw [hx] at x0
  rw [hz] at x1
  have z1 : w.cell? ⟨ad.block, ad.off + 1, none⟩ = some (.int .u8 (z : Int)) := x1
  clear hr hm HV x1 hx hz
  by_cases h3 : N = 3
  · have i3 : ((N : Int) == 3) = true := by rw [beq_iff_eq]; omega
    have i4 : ((x : Int) == 1) = false := by rw [beq_eq_false_iff_ne]; omega
    have i8 : ¬ (x : Int) = 1 := by omega
    by_cases h2 : x = 2
    · subst h2
      have i6 : (8 : Int) < (z : Int) := by omega
      clear ha h1 hN hN2 h3
      go_enter Try.func46, Try.ntmps46
      go_wp2_with ((with_reducible refine wpl_seg_store sizeI (.tmp 2) (.tmp 47) rfl rfl B1.out 0 [.int .i64 0, .int .i64 0, .slice none 0 0] rfl (Nat.le_refl _) (by simp [Value.oneCell']) rfl rfl _ rfl ?_); intro w10 B10 g10 e10)
      refine bodyPost_ret (iret2 rfl _ B10 rfl rfl) rfl ?_
      exact ⟨rfl, b1.out.grown g10 b1.out.size (fun k e => by cases e; exact Nat.le_refl _)⟩
    · have i5 : ¬ (x : Int) = 2 := by omega
      have i7 : ((x : Int) != 2) = true := by rw [bne_iff_ne]; exact i5
      clear ha h1 hN hN2 h3
      go_enter Try.func46, Try.ntmps46
      go_wp2_with ((with_reducible refine wpl_seg_store sizeI (.tmp 2) (.tmp 47) rfl rfl B1.out 0 [.int .i64 0, .int .i64 0, .slice none 0 0] rfl (Nat.le_refl _) (by simp [Value.oneCell']) rfl rfl _ rfl ?_); intro w10 B10 g10 e10)
      refine bodyPost_ret (iret2 rfl _ B10 rfl rfl) rfl ?_
      exact ⟨rfl, b1.out.grown g10 b1.out.size (fun k e => by cases e; exact Nat.le_refl _)⟩
  · have i3 : ((N : Int) == 3) = false := by rw [beq_eq_false_iff_ne]; omega
    by_cases h2 : x = 2
    · subst h2
      have i6 : (8 : Int) < (z : Int) := by omega
      clear ha h1 hN hN2 h3
      go_enter Try.func46, Try.ntmps46
      go_wp2_with ((with_reducible refine wpl_seg_store sizeI (.tmp 2) (.tmp 47) rfl rfl B1.out 0 [.int .i64 0, .int .i64 0, .slice none 0 0] rfl (Nat.le_refl _) (by simp [Value.oneCell']) rfl rfl _ rfl ?_); intro w10 B10 g10 e10)
      refine bodyPost_ret (iret2 rfl _ B10 rfl rfl) rfl ?_
      exact ⟨rfl, b1.out.grown g10 b1.out.size (fun k e => by cases e; exact Nat.le_refl _)⟩
    · have i5 : ¬ (x : Int) = 2 := by omega
      have i7 : ((x : Int) != 2) = true := by rw [bne_iff_ne]; exact i5
      clear ha h1 hN hN2 h3
      go_enter Try.func46, Try.ntmps46
      go_wp2_with ((with_reducible refine wpl_seg_store sizeI (.tmp 2) (.tmp 47) rfl rfl B1.out 0 [.int .i64 0, .int .i64 0, .slice none 0 0] rfl (Nat.le_refl _) (by simp [Value.oneCell']) rfl rfl _ rfl ?_); intro w10 B10 g10 e10)
      refine bodyPost_ret (iret2 rfl _ B10 rfl rfl) rfl ?_
      exact ⟨rfl, b1.out.grown g10 b1.out.size (fun k e => by cases e; exact Nat.le_refl _)⟩
def FileRes (z : Int) : Value := .tuple #[.agg #[.int .i64 (if IN.ok ⟨1, z, []⟩ then 1 else 0), .int .i64 (if IN.ok ⟨1, z, []⟩ then z else 0), .slice none 0 0], .int .i64 (if IN.ok ⟨1, z, []⟩ then 0 else 11)]
theorem FileRes.yes {z : Int} (h : IN.ok ⟨1, z, []⟩) : FileRes z = .tuple #[.agg #[.int .i64 1, .int .i64 z, .slice none 0 0], .int .i64 0] := by unfold FileRes; rw [if_pos h, if_pos h, if_pos h]
theorem FileRes.no {z : Int} (h : ¬ IN.ok ⟨1, z, []⟩) : FileRes z = .tuple #[.agg #[.int .i64 0, .int .i64 0, .slice none 0 0], .int .i64 11] := by unfold FileRes; rw [if_neg h, if_neg h, if_neg h]
set_option maxRecDepth 100000 in
set_option maxHeartbeats 8000000 in
theorem refRead_file (v : Value) (a b c : UInt8) (w : World) (hv : Bytes w w.heap.size v [a, b, c]) (ha : a.toNat = 1) :
    Calls Try.prog 46 #[v] w fun x w' => x = .returned (FileRes ((b.toNat : Int) + 256 * (c.toNat : Int))) ∧ Below w.heap.size w w' := by
  have HV := Lib.hid hv
  obtain ⟨A0, c0, rfl, hc, hm, hr⟩ := hv
  obtain ⟨ad, rfl, hab, x0⟩ := HV.out.at_ (k := 0) (b := a) rfl
  obtain ⟨_, e, _, x1⟩ := HV.out.at_ (k := 1) (b := b) rfl
  cases e
  obtain ⟨_, e, _, x2⟩ := HV.out.at_ (k := 2) (b := c) rfl
  cases e
  rw [show ad.add 0 = ad by simp [Addr.add]] at x0
  have b1 := Lib.hid ((Below.refl w.heap.size w).alloc (Nat.le_refl _) (.cells #[.int .i64 0, .int .i64 0, .slice none 0 0] 66))
  have B1 := Lib.hid (Blk.new w 66 [.int .i64 0, .int .i64 0, .slice none 0 0])
  rw [ha] at x0
  obtain ⟨x, hx⟩ : ∃ x, b.toNat = x := ⟨_, rfl⟩
  obtain ⟨z, hz⟩ : ∃ z, c.toNat = z := ⟨_, rfl⟩
  have hx2 : x < 256 := by rw [← hx]; exact b.toNat_lt
  have hz2 : z < 256 := by rw [← hz]; exact c.toNat_lt
  rw [hx] at x1 ⊢
  rw [hz] at x2 ⊢
  have z1 : w.cell? ⟨ad.block, ad.off + 1, none⟩ = some (.int .u8 (x : Int)) := x1
  have z2 : w.cell? ⟨ad.block, ad.off + 2, none⟩ = some (.int .u8 (z : Int)) := x2
  simp only [List.length_cons, List.length_nil]
  clear hr hm HV x1 x2 hx hz
  have ux : (x : Int) < 256 := by omega
  have uz : (z : Int) < 256 := by omega
  go_enter Try.func46, Try.ntmps46
  go_wp2_with fail
  go_region
  have H3 : Hid (Below w.heap.size w ((w.alloc (.cells #[.int .i64 0, .int .i64 0, .slice none 0 0] 66)).alloc (.cells #[.int .i64 1, .int .i64 ((x : Int) + 256 * (z : Int)), .slice none 0 0] 66)).drew) := Lib.hid (((b1.out.alloc b1.out.size (.cells #[.int .i64 1, .int .i64 ((x : Int) + 256 * (z : Int)), .slice none 0 0] 66))).drew)
  have B3 : Hid (Blk ((w.alloc (.cells #[.int .i64 0, .int .i64 0, .slice none 0 0] 66)).alloc (.cells #[.int .i64 1, .int .i64 ((x : Int) + 256 * (z : Int)), .slice none 0 0] 66)).drew w.heap.size 66 [.int .i64 0, .int .i64 0, .slice none 0 0]) := Lib.hid (B1.out.alloc (.cells #[.int .i64 1, .int .i64 ((x : Int) + 256 * (z : Int)), .slice none 0 0] 66))
  have hn3 := Blk.new (w.alloc (.cells #[.int .i64 0, .int .i64 0, .slice none 0 0] 66)) 66 [.int .i64 1, .int .i64 ((x : Int) + 256 * (z : Int)), .slice none 0 0]
  rw [World.size_alloc] at hn3
  have N3 : Hid (Blk ((w.alloc (.cells #[.int .i64 0, .int .i64 0, .slice none 0 0] 66)).alloc (.cells #[.int .i64 1, .int .i64 ((x : Int) + 256 * (z : Int)), .slice none 0 0] 66)).drew (w.heap.size + 1) 66 [.int .i64 1, .int .i64 ((x : Int) + 256 * (z : Int)), .slice none 0 0]) := Lib.hid hn3
  have KC := Lib.hid (irefRight_any ⟨1, (x : Int) + 256 * (z : Int), []⟩ (.slice none 0 0) ((w.alloc (.cells #[.int .i64 0, .int .i64 0, .slice none 0 0] 66)).alloc (.cells #[.int .i64 1, .int .i64 ((x : Int) + 256 * (z : Int)), .slice none 0 0] 66)).drew (Ents.nil 0 (by simp [maxLen])))
  obtain ⟨R, hR⟩ : ∃ R, decide (IN.ok ⟨1, (x : Int) + 256 * (z : Int), []⟩) = R := ⟨_, rfl⟩
  have HX := Lib.hid (fun (w' : World) (hb : Below w.heap.size w w') => (hb.cell hab).trans x0)
  rw [hR] at KC
  have HR := Lib.hid hR
  generalize ((w.alloc (.cells #[.int .i64 0, .int .i64 0, .slice none 0 0] 66)).alloc (.cells #[.int .i64 1, .int .i64 ((x : Int) + 256 * (z : Int)), .slice none 0 0] 66)).drew = W3 at H3 B3 N3 KC ⊢
  obtain ⟨g0, hg0⟩ : ∃ g0, w.heap.size = g0 := ⟨_, rfl⟩
  have HG0 := Lib.hid hg0
  rw [hg0] at B3 N3 ⊢
  clear hn3 hR x0 z1 z2 B1 b1 hg0
  go_wp2_with (with_reducible refine wpl_seg_load aggI sizeI (.tmp 4) rfl rfl N3.out 0 [.int .i64 1, .int .i64 ((x : Int) + 256 * (z : Int)), .slice none 0 0] rfl rfl rfl ?_)
  refine KC.out.mono ?_
  rintro e w4 ⟨rfl, b4⟩
  have H4 := Lib.hid (H3.out.trans (b4.mono H3.out.size))
  have B4 := Lib.hid (B3.out.after b4)
  have N4 := Lib.hid (N3.out.after b4)
  clear b4 KC H3 B3 N3
  cases R with
  | true =>
    have HO : Hid (IN.ok ⟨1, (x : Int) + 256 * (z : Int), []⟩) := Lib.hid (of_decide_eq_true HR.out)
    go_wp2_with (first
      | (with_reducible refine wpl_seg_load aggI sizeI (.tmp 4) rfl rfl N4.out 0 [.int .i64 1, .int .i64 ((x : Int) + 256 * (z : Int)), .slice none 0 0] rfl rfl rfl ?_)
      | ((with_reducible refine wpl_seg_store sizeI (.tmp 2) (.tmp 31) rfl rfl B4.out 0 [.int .i64 1, .int .i64 ((x : Int) + 256 * (z : Int)), .slice none 0 0] rfl (Nat.le_refl _) (by simp [Value.oneCell']) rfl rfl _ rfl ?_); intro w10 B10 g10 e10))
    refine bodyPost_ret (iret2 rfl _ B10 rfl rfl) rfl ?_
    exact ⟨by rw [FileRes.yes HO.out]; rfl, H4.out.grown g10 H4.out.size (fun k e => by cases e; rw [← HG0.out]; exact Nat.le_refl _)⟩
  | false =>
    have HO : Hid (¬ IN.ok ⟨1, (x : Int) + 256 * (z : Int), []⟩) := Lib.hid (of_decide_eq_false HR.out)
    have x4 := HX.out _ H4.out
    go_wp2_with ((with_reducible refine wpl_seg_store sizeI (.tmp 2) (.tmp 47) rfl rfl B4.out 0 [.int .i64 0, .int .i64 0, .slice none 0 0] rfl (Nat.le_refl _) (by simp [Value.oneCell']) rfl rfl _ rfl ?_); intro w10 B10 g10 e10)
    refine bodyPost_ret (iret2 rfl _ B10 rfl rfl) rfl ?_
    exact ⟨by rw [FileRes.no HO.out]; rfl, H4.out.grown g10 H4.out.size (fun k e => by cases e; rw [← HG0.out]; exact Nat.le_refl _)⟩
end Go.Proofs.Ytppodbijdhcclaa


/- What inode's Without gives. No condition but that the entries and the names are there. -/
import Derived.Test.YtkpojlnfagonbaaQInoDelW
import Derived.Test.YtkpojlnfagonbaaQInoCheck
namespace Go.Proofs.Ytkpojlnfagonbaa
open Go Go.RowKit
set_option maxRecDepth 100000 in
set_option maxHeartbeats 8000000 in
theorem iwithout_any (n : IN) (v vx : Value) (xs : List ByteArray) (w : World) (hv : Ents w w.heap.size v n.es) (hl : n.es.length ≤ 1000) (hx : Strs w w.heap.size vx xs) (hxl : xs.length ≤ 1000) :
    Calls Try.prog 15 #[.agg #[.int .i64 n.k, .int .i64 n.z, v], vx] w fun e w' => ∃ m, Hid ((wo n.es xs).length = m) ∧ ∃ A c, e = .returned (.agg #[.int .i64 n.k, .int .i64 n.z, .slice A m c]) ∧ Hid (OwnE w' w.heap.size (.slice A m c) (wo n.es xs)) ∧ Below w.heap.size w w' := by
  obtain ⟨A, c, rfl, hc, hmx⟩ := hv.shape
  obtain ⟨A9, c9, rfl, hc9, hmx9⟩ := hx.shape
  obtain ⟨k, z, es⟩ := n
  simp only at hv hc hl ⊢
  have b1 := (Below.refl w.heap.size w).alloc (Nat.le_refl _) (.cells #[.int .i64 k, .int .i64 z, .slice A es.length c] 24)
  have b2 := b1.alloc b1.size (.cells #[.slice A9 xs.length c9] 25)
  have b3 := b2.alloc b2.size (.cells #[.int .i64 0, .int .i64 0, .slice none 0 0] 24)
  have HB := Lib.hid b3
  have B1 := Lib.hid (((Blk.new w 24 [.int .i64 k, .int .i64 z, .slice A es.length c]).alloc (.cells #[.slice A9 xs.length c9] 25)).alloc (.cells #[.int .i64 0, .int .i64 0, .slice none 0 0] 24))
  have E0 := (Blk.new (w.alloc (.cells #[.int .i64 k, .int .i64 z, .slice A es.length c] 24)) 25 [.slice A9 xs.length c9]).alloc (.cells #[.int .i64 0, .int .i64 0, .slice none 0 0] 24)
  rw [World.size_alloc] at E0
  have E1 := Lib.hid E0
  have R0 := Blk.new ((w.alloc (.cells #[.int .i64 k, .int .i64 z, .slice A es.length c] 24)).alloc (.cells #[.slice A9 xs.length c9] 25)) 24 [.int .i64 0, .int .i64 0, .slice none 0 0]
  rw [World.size_alloc, World.size_alloc] at R0
  have R1 := Lib.hid R0
  have V1 := Lib.hid (hv.after b3)
  have X1 := Lib.hid (hx.below b3)
  obtain ⟨N, hN⟩ : ∃ N, es.length = N := ⟨_, rfl⟩
  have HN := Lib.hid hN
  obtain ⟨M, hM⟩ : ∃ M, xs.length = M := ⟨_, rfl⟩
  have HM := Lib.hid hM
  rw [hN, hM] at HB B1 E1 R1 V1 X1
  rw [hN] at hc hl ⊢
  rw [hM] at hc9 hxl ⊢
  clear b1 b2 b3 hv hx E0 R0 hN hM
  go_enter Try.func15, Try.ntmps15
  obtain ⟨W, hW⟩ : ∃ W, W = ((w.alloc (.cells #[.int .i64 k, .int .i64 z, .slice A N c] 24)).alloc (.cells #[.slice A9 M c9] 25)).alloc (.cells #[.int .i64 0, .int .i64 0, .slice none 0 0] 24) := ⟨_, rfl⟩
  have SZ : Hid (W.heap.size = w.heap.size + 3) := Lib.hid (by rw [hW]; simp)
  rw [← hW] at HB B1 E1 R1 V1 X1
  have KCL := Lib.hid (clone_any _ es W V1.out (by rw [HN.out]; omega))
  rw [HN.out] at KCL
  go_wp2_with fail
  rw [← hW]
  obtain ⟨g0, hg0⟩ : ∃ g0, g0 = w.heap.size := ⟨_, rfl⟩
  have HG0 := Lib.hid hg0
  rw [← hg0] at B1 E1 R1 SZ ⊢
  clear hW hg0
  refine KCL.out.mono ?_
  rintro e w1 ⟨A4, c4, rfl, O4, hb4⟩
  have HB4 := Lib.hid (HB.out.trans (hb4.mono HB.out.size))
  have B4 := Lib.hid (B1.out.after hb4)
  have E4 := Lib.hid (E1.out.after hb4)
  have R4 := Lib.hid (R1.out.after hb4)
  have X4 : Hid (Strs w1 W.heap.size (.slice A9 M c9) xs) := Lib.hid ((X1.out.more HB.out.size).below hb4)
  have hlo : ∀ q, (Value.slice A4 N c4).ownBlock = some q → W.heap.size ≤ q := fun q e => (World.ownsRow.lt O4 q e).1
  have HLO := Lib.hid hlo
  have KD := Lib.hid (delete_any W.heap.size (g0 + 1) A4 N c4 _ es xs w1 hb4.size O4 HN.out hl (E4.out.cell 0) (by have := SZ.out; omega) X4.out (by rw [HM.out]; exact hxl))
  have hmf : ∀ (fn : Fn) (first cap : Array Value) (w : World), (Instr.makeFunc fn first cap).run Try.prog w = .ok (.func fn first cap) w := fun _ _ _ _ => rfl
  clear hb4 KCL O4 V1 X1 B1 E1 R1 hlo
  go_wp2_with (first | (with_reducible refine wpl_seg_load aggI sizeI (.tmp 2) rfl rfl B6.out 0 [.int .i64 k, .int .i64 z, .slice A5 m c5] rfl rfl rfl ?_) | ((with_reducible refine wpl_seg_store sizeI (.tmp 4) (.tmp 11) rfl rfl R6.out 0 [.int .i64 k, .int .i64 z, .slice A5 m c5] rfl (Nat.le_refl _) (by simp [Value.oneCell']) rfl rfl _ rfl ?_); intro w7 B7 g7 e7) | ((with_reducible refine KD.out.mono ?_); rintro e w2 ⟨A5, m, c5, hm5, rfl, O5, G5⟩; have HO5 := Lib.hid O5; have HG5 := Lib.hid G5; have B5 := Lib.hid (B4.out.grown G5 (fun e => by have := HLO.out _ e.symm; have := SZ.out; omega)); have R5 := Lib.hid (R4.out.grown G5 (fun e => by have := HLO.out _ e.symm; have := SZ.out; omega)); have c52 := show w2.cell? ⟨g0, 2, none⟩ = some _ from B5.out.cell 2; have f52 := B5.out.free 2; have s6 := Lib.hid (show w2.grownBy (w2.setCell ⟨g0, 2, none⟩ (.slice A5 m c5)) (some g0) from only_set w2 ⟨g0, 2, none⟩ (.slice A5 m c5)); have B6 := Lib.hid (show Blk (w2.setCell ⟨g0, 2, none⟩ (.slice A5 m c5)) g0 24 [.int .i64 k, .int .i64 z, .slice A5 m c5] from B5.out.set 2 (.slice A5 m c5)); have R6 := Lib.hid (R5.out.grown s6.out (by simp only [ne_eq, Option.some.injEq]; omega)); clear O5 G5))
  refine bodyPost_ret (sret1 aggI sizeI rfl _ B7 (i := 0) (vs := [.int .i64 k, .int .i64 z, .slice A5 m c5]) rfl rfl rfl) rfl ?_
  have O7 : OwnE w7 W.heap.size (.slice A5 m c5) (wo es xs) := (HO5.out.grown (by have := SZ.out; omega) s6.out).grown (by have := SZ.out; omega) g7
  refine ⟨m, hm5, A5, c5, rfl, Lib.hid (O7.lower (by have := SZ.out; have := HG0.out; omega)), ?_⟩
  exact (((HB4.out.grown HG5.out HB4.out.size (fun q e => by have := HLO.out q e; have := HB.out.size; omega)).grown s6.out (Nat.le_trans HB4.out.size HG5.out.size) (fun q e => by cases e; have := HG0.out; omega)).grown g7 (Nat.le_trans HB4.out.size (Nat.le_trans HG5.out.size s6.out.size)) (fun q e => by cases e; have := HG0.out; omega))
end Go.Proofs.Ytkpojlnfagonbaa


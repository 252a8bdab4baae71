/- The contract of look where the chip doesn't answer. Condition: the chip is there. -/
import Derived.Test.YtaafelhjcmgkdaaGreatDoorQBbtLookM
namespace Go.Proofs.YtaafelhjcmgkdaaGreatDoor
open Go.RowKit
set_option maxRecDepth 100000 in
set_option maxHeartbeats 8000000 in
theorem look_off (a : At) (S : Ch) (s : NM.Pwr) (w : World) (hD : Dev w a S s) (he : S.mayE s ≠ 0) :
    Calls Tryz.prog 54 #[.pointer (some ⟨a.c, 0, none⟩)] w fun e w' => e = .returned (.tuple #[.agg Kp.zero.row.toArray, .int .i64 (S.mayE s)]) ∧ Below w.heap.size w w' := by
  have z := zeroKept
  have y0 := buildKept0
  have zp := zeroPage
  have HE := Lib.hid he
  have hz := Kp.zero_length
  have HZ := Lib.hid hz
  have hs0 := segSet_all (hz.trans hz.symm)
  have b0 : Below w.heap.size w ((w.alloc (.cells Kp.zero.row.toArray 109)).alloc (.cells Kp.zero.row.toArray 109)) := ((Below.refl _ _).alloc (Nat.le_refl _) _).alloc (by simp) _
  have R0 : Blk ((w.alloc (.cells Kp.zero.row.toArray 109)).alloc (.cells Kp.zero.row.toArray 109)) w.heap.size 109 Kp.zero.row := (Blk.new w _ _).alloc _
  have F0 : Blk ((w.alloc (.cells Kp.zero.row.toArray 109)).alloc (.cells Kp.zero.row.toArray 109)) (w.heap.size + 1) 109 Kp.zero.row := by
    have := Blk.new (w.alloc (.cells Kp.zero.row.toArray 109)) 109 Kp.zero.row
    rw [World.size_alloc] at this
    exact this
  have HB := Lib.hid b0
  have HR := Lib.hid R0
  have HD := Lib.hid hD
  have hm : NM.may s.off S.live S.bs.length 0 0 = S.mayE s := rfl
  obtain ⟨er, her⟩ : ∃ er, er = S.mayE s := ⟨_, rfl⟩
  rw [← her] at he HE hm
  have HER := Lib.hid her
  have HM := Lib.hid hm
  have hd := he
  clear b0 R0 hD hz her hm he
  go_enter Tryz.func54, Tryz.ntmps54
  go_wp2_with (with_reducible refine wpl_seg_store sizeKept (.tmp 4) (.tmp 13) rfl rfl F0 0 Kp.zero.row HZ.out (by rw [HZ.out]; exact Nat.le_refl _) (Kp.one _) rfl rfl _ hs0 ?_; intro w1 F1 g1 e1)
  have B1 := Lib.hid (HB.out.grown g1 (by simp; omega) (fun k e => by cases e; omega))
  have R1 := Lib.hid (HR.out.grown g1 (by simp))
  have D1 := Lib.hid (HD.out.after B1.out)
  clear F0 F1 g1 e1 HB HR HD
  go_loopw [14] (fun i wr => i = .int .i64 0 ∧ wr = w1) (fun _ _ => 0)
  case atStart => exact ⟨rfl, rfl⟩
  case round =>
    obtain ⟨rfl, rfl⟩ := hrel
    go_wp2_with fail
    go_loopw [17] (fun i wr' => i = .int .i64 0 ∧ wr' = wr) (fun _ _ => 0)
    case atStart => exact ⟨rfl, rfl⟩
    case round =>
      obtain ⟨rfl, rfl⟩ := hrel
      have kr := cread_any a S s 0 0 wr D1.out.pc D1.out.pw
      rw [HM.out, show S.readPage er 0 0 = pzeros from by unfold Ch.readPage; rw [if_neg HE.out]] at kr
      have d1 : (er != 0) = true := by simpa using HE.out
      go_wp2_with (first
        | ((with_reducible refine kr.mono ?_); rintro e w2 ⟨rfl, b2⟩; have N2 := PArr.new w2 pzeros_length; have R2 := Lib.hid ((R1.out.after b2).alloc (.cells (cl pzeros) 54)); have B2 : Hid (Below w.heap.size w (w2.alloc (.cells (cl pzeros) 54))) := Lib.hid ((B1.out.trans (b2.mono B1.out.size)).alloc (Nat.le_trans B1.out.size b2.size) _); have rl2 := Lib.hid (R1.out.after b2).lt)
        | (with_reducible refine wpl_pstore (.tmp 8) (.tmp 25) rfl rfl N2 rfl pzeros_length rfl ?_; intro w3 N3 g3 e3; have R3 := R2.out.grown g3 (by have := rl2.out; simp; omega); have B3 := Lib.hid (B2.out.grown g3 B2.out.size (fun k e => by have := Option.some.inj e; have := rl2.out; omega)))
        | (with_reducible refine wpl_seg_store sizeKept (.tmp 2) (.tmp 29) rfl rfl R3 0 Kp.zero.row HZ.out (by rw [HZ.out]; exact Nat.le_refl _) (Kp.one _) rfl rfl _ hs0 ?_; intro w4 R4 g4 e4))
      refine bodyPost_ret (kept_ret2 rfl _ R4 HZ.out rfl) rfl ?_
      rw [← HER.out]
      exact ⟨rfl, B3.out.grown g4 B3.out.size (fun k e => by have := Option.some.inj e; omega)⟩
end Go.Proofs.YtaafelhjcmgkdaaGreatDoor


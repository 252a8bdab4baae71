/- The example of the document holds. Condition: the table holds its sixteen numbers. -/
import Derived.Test.YtnclefdlmbkjmaaDoorFrameReadP
import Derived.Lib.SlBytesConst
import Derived.Lib.SmallJoins
namespace Go.Proofs.YtnclefdlmbkjmaaDoor
open Go.RowKit
theorem speaks_page : ((FM.page 7 [97, 98]).take 5) = [7, 2, 97, 98, 0] := by decide +kernel
set_option maxRecDepth 100000 in
set_option maxHeartbeats 4000000 in
theorem speaks_any (w : World) (ht : Tab w) :
    Calls Tryd.prog 8 #[] w fun e w' => e = .returned (.bool true) ∧ Below w.heap.size w w' := by
  have H := Lib.hid ht
  have z := zeroPage
  have kc := fun (w : World) (C : Array Value) (n c : Nat) => Lib.run_convert_bytes_const (P := Tryd.prog) w 24 5 C n c Tryd.underlying24 Tryd.underlying5
  clear ht
  have kc2 := Joins.run_convert_bytes_const_at (P := Tryd.prog) (w.alloc (.cells #[.int .u8 97] 5 (1, 2))) 24 5 #[.int .u8 98] 1 1 (w.heap.size + 1) (by rw [World.size_alloc]) Tryd.underlying24 Tryd.underlying5
  have hb1 : Below w.heap.size w (((w.alloc (.cells #[.int .u8 97] 5 (1, 2))).alloc (.cells #[.int .u8 98] 5 (1, 2))).alloc (.cells #[.slice (some ⟨w.heap.size, 0, none⟩) 1 1, .slice (some ⟨w.heap.size + 1, 0, none⟩) 1 1] 24)) :=
    (((Below.refl _ _).alloc (Nat.le_refl _) _).alloc (by simp) _).alloc (by simp; omega) _
  obtain ⟨LL, hP, hL⟩ : Joined (((w.alloc (.cells #[.int .u8 97] 5 (1, 2))).alloc (.cells #[.int .u8 98] 5 (1, 2))).alloc (.cells #[.slice (some ⟨w.heap.size, 0, none⟩) 1 1, .slice (some ⟨w.heap.size + 1, 0, none⟩) 1 1] 24)) (w.heap.size + 3) (.slice (some ⟨w.heap.size + 2, 0, none⟩) 2 2) ([97] ++ [98]) :=
    Joined.two (B := w.heap.size + 2) (((Bytes.lit w [97] 1 rfl (by simp [maxLen]) _ rfl _ _ _ rfl (w.heap.size + 1) (by omega)).alloc (by simp) _).more (by omega)) (Bytes.lit (w.alloc (.cells #[.int .u8 97] 5 (1, 2))) [98] 1 rfl (by simp [maxLen]) _ rfl _ _ _ (by simp) (w.heap.size + 2) (by omega)) (by simp) _ (by simp) _ (by omega) _
  have k1 : Calls Tryd.prog 9 #[.int .u8 7, .slice (some ⟨w.heap.size + 1 + 1, 0, none⟩) 2 2] (((w.alloc (.cells #[.int .u8 97] 5 (1, 2))).alloc (.cells #[.int .u8 98] 5 (1, 2))).alloc (.cells #[.slice (some ⟨w.heap.size, 0, none⟩) 1 1, .slice (some ⟨w.heap.size + 1, 0, none⟩) 1 1] 24)) fun e w' => e = .returned (.tuple #[.agg (cl (FM.page 7 [97, 98])), .int .i64 0]) ∧ Below (((w.alloc (.cells #[.int .u8 97] 5 (1, 2))).alloc (.cells #[.int .u8 98] 5 (1, 2))).alloc (.cells #[.slice (some ⟨w.heap.size, 0, none⟩) 1 1, .slice (some ⟨w.heap.size + 1, 0, none⟩) 1 1] 24)).heap.size (((w.alloc (.cells #[.int .u8 97] 5 (1, 2))).alloc (.cells #[.int .u8 98] 5 (1, 2))).alloc (.cells #[.slice (some ⟨w.heap.size, 0, none⟩) 1 1, .slice (some ⟨w.heap.size + 1, 0, none⟩) 1 1] 24)) w' := by
    have h := write_any 7 _ LL _ _ (by simp) hP (H.out.below hb1 H.out.lt) (by rw [hL]; simp)
    rw [hL, show FM.writeM 7 ([97] ++ [98]) = (FM.page 7 [97, 98], 0) by rfl] at h
    exact h
  have hpl : (FM.page 7 [97, 98]).length = 258 := FM.page_length 7 [97, 98] (by simp)
  clear hP hL
  go_enter Tryd.func8, Tryd.ntmps8
  go_wp2_with fail
  clear kc kc2
  ((with_reducible refine k1.mono ?_); rintro e w2 ⟨rfl, hb2⟩)
  have B2 := Lib.hid (hb1.trans (hb2.mono hb1.size))
  clear k1 hb1 hb2
  go_wp2_with (with_reducible refine wpl_pstore (.tmp 1) (.tmp 10) rfl rfl (PArr.new w2 pzeros_length) rfl hpl rfl ?_; intro w3 P3 g3 e3)
  have P3' := Lib.hid P3
  have B3 := Lib.hid ((B2.out.alloc B2.out.size (.cells (cl pzeros) 26)).grown g3 (by rw [World.size_alloc]; have := B2.out.size; omega) (fun k e => by cases e; exact B2.out.size))
  have Y3 := parr_mid P3 (o := 0) (n := 5) (c := 258) (X := [7, 2, 97, 98, 0]) (by rw [List.drop_zero, speaks_page]) rfl (by omega) (by omega)
  have S3 := str_of Y3
  have hs : (⟨[7, 2, 97, 98, 0].toArray⟩ : ByteArray) = ⟨#[7, 2, 97, 98, 0]⟩ := rfl
  rw [hs] at S3
  clear Y3 P3 g3 e3 B2 hs
  go_wp2_with fail
  rw [S3, Result.andThen_ok]
  clear S3
  go_wp2_with fail
  go_ret
  exact ⟨rfl, B3.out⟩
end Go.Proofs.YtnclefdlmbkjmaaDoor

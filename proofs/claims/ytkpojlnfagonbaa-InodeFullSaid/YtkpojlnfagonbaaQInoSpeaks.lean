/- The example of the document for layer 18 holds; InodeKeys' walk: it answers true, and changes nothing that was there. No condition. -/
import Derived.Test.YtkpojlnfagonbaaQInoWrite
import Derived.Test.YtkpojlnfagonbaaQNandAnd
namespace Go.Proofs.Ytkpojlnfagonbaa
open Go.RowKit Go.Shelf
theorem IN.one : IN.ok ⟨2, 0, [⟨⟨#[97]⟩, 3⟩]⟩ := .inr ⟨rfl, rfl, by decide, by decide⟩
set_option maxRecDepth 100000 in
set_option maxHeartbeats 2000000 in
theorem inospeaks_any (w : World) :
    Calls Try.prog 9 #[] w fun e w' => e = .returned (.bool true) ∧ Below w.heap.size w w' := by
  have HB := Lib.hid ((Below.refl w.heap.size w).alloc (Nat.le_refl _) (.cells #[.string ⟨#[97]⟩, .int .i64 3] 32))
  have hr := Row.new w #[.string ⟨#[97]⟩, .int .i64 3] 32 (0, 0) w.heap.size rfl (B := (w.alloc (.cells #[.string ⟨#[97]⟩, .int .i64 3] 32)).heap.size) (by simp)
  have hv : Ents (w.alloc (.cells #[.string ⟨#[97]⟩, .int .i64 3] 32)) (w.alloc (.cells #[.string ⟨#[97]⟩, .int .i64 3] 32)).heap.size (.slice (some ⟨w.heap.size, 0, none⟩) 1 1) [⟨⟨#[97]⟩, 3⟩] := ⟨_, 1, rfl, by decide, by simp [maxLen], hr⟩
  have k := write_yes ⟨2, 0, [⟨⟨#[97]⟩, 3⟩]⟩ _ _ hv IN.one
  rw [show (IN.bytes ⟨2, 0, [⟨⟨#[97]⟩, 3⟩]⟩) = [2, 1, 3, 1, 97] by decide] at k
  have K := Lib.hid k
  have KC := Lib.hid (chunks_any 129 (by decide))
  clear hr hv k
  go_enter Try.func9, Try.ntmps9
  go_wp2_with fail
  refine K.out.mono ?_
  rintro e w2 ⟨g, c, rfl, O2, hb2⟩
  have D2 : Bytes w2 w2.heap.size (.slice (some ⟨g, 0, none⟩) 5 c) [2, 1, 3, 1, 97] := O2.bytes (by simp [maxLen])
  have hs := str_of D2
  have hb3 := Lib.hid (HB.out.trans (hb2.mono HB.out.size))
  clear D2 O2 hb2 K
  go_wp2_with fail
  refine (KC.out _).mono ?_
  rintro e w3 ⟨rfl, rfl⟩
  go_wp2
  go_ret
  exact ⟨by first | rfl | decide, hb3.out⟩
end Go.Proofs.Ytkpojlnfagonbaa


/- strings.IndexRune of "/" and 0 at a rune that isn't ASCII: none. No condition. -/
import Derived.Test.YtkpojlnfagonbaaQShelfAny
import Derived.Test.YtkpojlnfagonbaaQCore
import Derived.Laws.RangeAny
import Derived.Laws.Runes
import Derived.WalkMore
import Derived.Deep.QuietTactic
import Derived.Deep.RegionHeld3
import Derived.BigQuiet
import Derived.Deep.LoopGhost
namespace Go.Proofs.Ytkpojlnfagonbaa
open Go.RowKit Go.Shelf
theorem validRune_any (r : Int) (w : World) (hv : Utf8.valid r = true) : Calls Try.prog 82 #[.int .i32 r] w fun e w' => e = .returned (.bool true) ∧ w = w' := by
  simp only [Utf8.valid, Bool.or_eq_true, Bool.and_eq_true, decide_eq_true_eq] at hv
  by_cases h : r < 55296
  · have h1 : 0 ≤ r := by omega
    go_enter Try.func82, Try.ntmps82
    go_wp2
    go_ret
    exact ⟨rfl, rfl⟩
  · have h1 : 0 ≤ r := by omega
    have h2 : 57343 < r := by omega
    have h3 : r ≤ 1114111 := by omega
    go_enter Try.func82, Try.ntmps82
    go_wp2
    go_ret
    exact ⟨rfl, rfl⟩
set_option maxRecDepth 100000 in
set_option maxHeartbeats 2000000 in
theorem indexRune_bad (w : World) : Calls Try.prog 77 #[.string ⟨#[47, 0]⟩, .int .i32 65533] w fun e w' => e = .returned (.int .i64 (-1)) ∧ Below w.heap.size w w' := by
  go_enter Try.func77, Try.ntmps77
  go_wp2
  go_loopg [5, 6] 2 (fun g _ _ wx => ∃ i : Nat, i + g = 2 ∧ wx = w.iter ⟨#[47, 0]⟩ i)
  case atStart => exact ⟨0, by omega, rfl⟩
  case round =>
    obtain ⟨i, hi, rfl⟩ := hrel
    rcases (show i = 0 ∨ i = 1 ∨ i = 2 by omega) with rfl | rfl | rfl
    · obtain rfl : gk = 2 := by omega
      have hn := fun ty => run_next_ascii (P := Try.prog) w ⟨#[47, 0]⟩ 0 ty (by decide) (by decide)
      go_wp2
      go_roundg 1
      case measure => omega
      case rel => exact ⟨1, by omega, rfl⟩
    · obtain rfl : gk = 1 := by omega
      have hn := fun ty => run_next_ascii (P := Try.prog) w ⟨#[47, 0]⟩ 1 ty (by decide) (by decide)
      go_wp2
      go_roundg 0
      case measure => omega
      case rel => exact ⟨2, by omega, rfl⟩
    · obtain rfl : gk = 0 := by omega
      have hn := run_next_end (P := Try.prog) w ⟨#[47, 0]⟩ 2
      go_wp2
      go_ret
      exact ⟨rfl, (Below.refl _ _).alloc (Nat.le_refl _) _⟩
theorem nm_drewN {B : Nat} {a w : World} (h : Below B a w) (n : Nat) : Below B a (w.drewN n) := ⟨h.os, h.tape, h.output, h.size, h.block⟩
theorem two_bytes (E : ByteArray) (h : E.size = 2) : ∃ x y, E = ⟨#[x, y]⟩ := by
  obtain ⟨⟨l⟩⟩ := E
  have hl : l.length = 2 := h
  match l, hl with
  | [x, y], _ => exact ⟨x, y, rfl⟩
set_option maxRecDepth 100000 in
set_option maxHeartbeats 2000000 in
theorem indexRune_high (r : Int) (w : World) (h : 128 ≤ r) (hv : Utf8.valid r = true) (hb : r ≠ 65533) : Calls Try.prog 77 #[.string ⟨#[47, 0]⟩, .int .i32 r] w fun e w' => e = .returned (.int .i64 (-1)) ∧ Below w.heap.size w w' := by
  have h1 : ¬ r < 128 := by omega
  have h0 : 0 ≤ r := by omega
  have d1 : (r == 65533) = false := by simpa using hb
  obtain ⟨f1, f2, f3⟩ := encode_facts r hv h
  obtain ⟨E, hE⟩ : ∃ E, Utf8.encode r = E := ⟨_, rfl⟩
  rw [hE] at f1 f2 f3
  have k1 := run_convert_int_string (P := Try.prog) (k := .i32) (n := r) (src := 21) (dst := 9) (hs := by rw [Try.underlying21]; rfl) (hd := Try.underlying9)
  rw [hE] at k1
  clear hE
  by_cases h3 : 3 ≤ E.size
  · have c1 : ¬ ((E.size : Int) - 1 < 2) := by omega
    clear f3
    go_enter Try.func77, Try.ntmps77
    go_wp2_with (first | (go_at_call 82; refine (validRune_any r _ hv).mono ?_; rintro e w' ⟨rfl, rfl⟩))
    go_step3
    go_wp2
    go_loop [9] (fun i => i = .int .i64 ((E.size : Int) - 1)) (fun _ => 0)
    case atStart => rfl
    case round =>
      subst hrel
      go_wp2
      go_ret
      exact ⟨rfl, Below.refl _ _⟩
  · have hl := f3 (by omega)
    obtain ⟨x, y, rfl⟩ := two_bytes E (by omega)
    have hy : 128 ≤ y.toNat := hl
    clear hl f1 f2 f3 h3
    have d2 : ((0 : Int) != (y.toNat : Int)) = true := by simp; omega
    have kb : ∀ (w : World), Calls Try.prog 81 #[.string ByteArray.empty, .int .u8 (y.toNat : Int)] w fun e w' => e = .returned (.int .i64 (-1)) ∧ w' = w := fun w => Any.strings_IndexByte Try.lays137 ByteArray.empty (y.toNat : Int) w
    go_enter Try.func77, Try.ntmps77
    go_wp2_with (first | (go_at_call 82; refine (validRune_any r _ hv).mono ?_; rintro e w' ⟨rfl, rfl⟩))
    go_step3
    go_wp2
    go_loop [9] (fun i => i = .int .i64 1) (fun _ => 0)
    case atStart => rfl
    case round =>
      subst hrel
      have e0 : ((⟨#[47, 0]⟩ : ByteArray)[1]'(by show 1 < 2; omega)).toNat = 0 := rfl
      have e2 : ((⟨#[x, y]⟩ : ByteArray)[1]'(by show 1 < 2; omega)) = y := rfl
      go_wp2
      go_step3
      go_wp2
      go_region
      go_wp2
      have e1 : IntKind.i64.wrap 2 = 2 := by decide
      have hB := Lib.hid (Below.refl w.heap.size w).drew
      obtain ⟨W, hW⟩ : ∃ W, W = w.drew := ⟨_, rfl⟩
      rw [← hW] at hB ⊢
      clear hW
      go_quiet (first | (go_at_call 81; exact Calls.quiet_of_same (kb _)))
      go_wp2
      refine (show bodyPost Try.prog Try.f77 (fun e w' => e = Ending.returned (Value.int IntKind.i64 (-1)) ∧ Below w.heap.size w w') Exit.ret _ _ from ?_)
      go_ret
      exact ⟨rfl, nm_drewN hB.out _⟩
end Go.Proofs.Ytkpojlnfagonbaa


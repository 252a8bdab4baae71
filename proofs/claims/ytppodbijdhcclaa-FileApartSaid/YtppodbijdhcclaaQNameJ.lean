/- Several texts of the proof, joined: what each has is said at its head. -/
import Derived.Shelf.Strings.IndexAnyAll
import Derived.Test.YtppodbijdhcclaaProg
import Derived.Test.YtppodbijdhcclaaQCore
import Derived.Laws.RangeAny
import Derived.Laws.Runes
import Derived.WalkMore
import Derived.Deep.QuietTactic
import Derived.Deep.RegionHeld3
import Derived.BigQuiet
import Derived.Deep.LoopGhost
import Derived.Lib.Split
import Derived.Lib.Join
import Derived.Lib.IndexAny
import Derived.WalkKit
/- The library's contracts laid at this program: the layings, each field a fact of the program or the kernel's comparison. No condition. -/
namespace Go.Proofs
open Go.Shelf
def Try.lays137_ren : Go.Shelf.Ren := ⟨fun | 137 => 101 | 217 => 105 | 266 => 106 | n => n, fun | 9 => 9 | 5 => 5 | 3 => 3 | n => n, fun | n => n⟩
theorem Try.lays137 : Go.Proofs.Lays.n137 Try.prog Try.lays137_ren := {
  mixed := by kernel_rfl
  f137 := Try.func101.trans (congrArg some (by kernel_rfl))
  f217 := Try.func105.trans (congrArg some (by kernel_rfl))
  f266 := Try.func106.trans (congrArg some (by kernel_rfl))
  t3 := Try.underlying3
  a3 := Try.isAgg3
  z3 := Try.sizeOf3
  v3 := Try.zeroValue3
  t5 := Try.underlying5
  a5 := Try.isAgg5
  z5 := Try.sizeOf5
  v5 := Try.zeroValue5
  t9 := Try.underlying9
  a9 := Try.isAgg9
  z9 := Try.sizeOf9
  v9 := Try.zeroValue9 }
def Try.lays152_ren : Go.Shelf.Ren := ⟨fun | 152 => 97 | 137 => 101 | 119 => 102 | 224 => 103 | 225 => 104 | 217 => 105 | 266 => 106 | n => n, fun | 9 => 9 | 21 => 21 | 3 => 3 | 4 => 4 | 5 => 5 | 0 => 0 | 46 => 123 | n => n, fun | n => n⟩
theorem Try.lays152 : Go.Proofs.Lays.n152 Try.prog Try.lays152_ren := {
  mixed := by kernel_rfl
  f119 := Try.func102.trans (congrArg some (by kernel_rfl))
  f137 := Try.func101.trans (congrArg some (by kernel_rfl))
  f152 := Try.func97.trans (congrArg some (by kernel_rfl))
  f217 := Try.func105.trans (congrArg some (by kernel_rfl))
  f224 := Try.func103.trans (congrArg some (by kernel_rfl))
  f225 := Try.func104.trans (congrArg some (by kernel_rfl))
  f266 := Try.func106.trans (congrArg some (by kernel_rfl))
  t0 := Try.underlying0
  a0 := Try.isAgg0
  z0 := Try.sizeOf0
  v0 := Try.zeroValue0
  t3 := Try.underlying3
  a3 := Try.isAgg3
  z3 := Try.sizeOf3
  v3 := Try.zeroValue3
  t4 := Try.underlying4
  a4 := Try.isAgg4
  z4 := Try.sizeOf4
  v4 := Try.zeroValue4
  t5 := Try.underlying5
  a5 := Try.isAgg5
  z5 := Try.sizeOf5
  v5 := Try.zeroValue5
  t9 := Try.underlying9
  a9 := Try.isAgg9
  z9 := Try.sizeOf9
  v9 := Try.zeroValue9
  t21 := Try.underlying21
  a21 := Try.isAgg21
  z21 := Try.sizeOf21
  v21 := Try.zeroValue21
  t46 := Try.underlying123
  a46 := Try.isAgg123
  z46 := Try.sizeOf123
  v46 := Try.zeroValue123 }
def Try.lays226_ren : Go.Shelf.Ren := ⟨fun | 226 => 98 | n => n, fun | 3 => 3 | 4 => 4 | n => n, fun | n => n⟩
theorem Try.lays226 : Go.Proofs.Lays.n226 Try.prog Try.lays226_ren := {
  mixed := by kernel_rfl
  f226 := Try.func98.trans (congrArg some (by kernel_rfl))
  t3 := Try.underlying3
  a3 := Try.isAgg3
  z3 := Try.sizeOf3
  v3 := Try.zeroValue3
  t4 := Try.underlying4
  a4 := Try.isAgg4
  z4 := Try.sizeOf4
  v4 := Try.zeroValue4 }
def Try.lays153_ren : Go.Shelf.Ren := ⟨fun | 153 => 96 | 152 => 97 | 226 => 98 | 227 => 99 | 228 => 100 | 137 => 101 | 119 => 102 | 224 => 103 | 225 => 104 | 217 => 105 | 266 => 106 | n => n, fun | 9 => 9 | 3 => 3 | 4 => 4 | 5 => 5 | 21 => 21 | 117 => 153 | 116 => 152 | 0 => 0 | 46 => 123 | 124 => 158 | n => n, fun | n => n⟩
theorem Try.lays153 : Go.Proofs.Lays.n153 Try.prog Try.lays153_ren := {
  mixed := by kernel_rfl
  f119 := Try.func102.trans (congrArg some (by kernel_rfl))
  f137 := Try.func101.trans (congrArg some (by kernel_rfl))
  f152 := Try.func97.trans (congrArg some (by kernel_rfl))
  f153 := Try.func96.trans (congrArg some (by kernel_rfl))
  f217 := Try.func105.trans (congrArg some (by kernel_rfl))
  f224 := Try.func103.trans (congrArg some (by kernel_rfl))
  f225 := Try.func104.trans (congrArg some (by kernel_rfl))
  f226 := Try.func98.trans (congrArg some (by kernel_rfl))
  f227 := Try.func99.trans (congrArg some (by kernel_rfl))
  f228 := Try.func100.trans (congrArg some (by kernel_rfl))
  f266 := Try.func106.trans (congrArg some (by kernel_rfl))
  t0 := Try.underlying0
  a0 := Try.isAgg0
  z0 := Try.sizeOf0
  v0 := Try.zeroValue0
  t3 := Try.underlying3
  a3 := Try.isAgg3
  z3 := Try.sizeOf3
  v3 := Try.zeroValue3
  t4 := Try.underlying4
  a4 := Try.isAgg4
  z4 := Try.sizeOf4
  v4 := Try.zeroValue4
  t5 := Try.underlying5
  a5 := Try.isAgg5
  z5 := Try.sizeOf5
  v5 := Try.zeroValue5
  t9 := Try.underlying9
  a9 := Try.isAgg9
  z9 := Try.sizeOf9
  v9 := Try.zeroValue9
  t21 := Try.underlying21
  a21 := Try.isAgg21
  z21 := Try.sizeOf21
  v21 := Try.zeroValue21
  t46 := Try.underlying123
  a46 := Try.isAgg123
  z46 := Try.sizeOf123
  v46 := Try.zeroValue123
  t116 := Try.underlying152
  a116 := Try.isAgg152
  z116 := Try.sizeOf152
  t117 := Try.underlying153
  a117 := Try.isAgg153
  z117 := Try.sizeOf153
  v117 := Try.zeroValue153
  t124 := Try.underlying158
  a124 := Try.isAgg158
  z124 := Try.sizeOf158
  v124 := Try.zeroValue158 }
def Try.lays150_ren : Go.Shelf.Ren := ⟨fun | 150 => 94 | 153 => 96 | 152 => 97 | 226 => 98 | 227 => 99 | 228 => 100 | 137 => 101 | 119 => 102 | 224 => 103 | 225 => 104 | 217 => 105 | 266 => 106 | n => n, fun | 9 => 9 | 4 => 4 | 3 => 3 | 5 => 5 | 21 => 21 | 117 => 153 | 116 => 152 | 0 => 0 | 46 => 123 | 124 => 158 | n => n, fun | n => n⟩
theorem Try.lays150 : Go.Proofs.Lays.n150 Try.prog Try.lays150_ren := {
  mixed := by kernel_rfl
  f119 := Try.func102.trans (congrArg some (by kernel_rfl))
  f137 := Try.func101.trans (congrArg some (by kernel_rfl))
  f150 := Try.func94.trans (congrArg some (by kernel_rfl))
  f152 := Try.func97.trans (congrArg some (by kernel_rfl))
  f153 := Try.func96.trans (congrArg some (by kernel_rfl))
  f217 := Try.func105.trans (congrArg some (by kernel_rfl))
  f224 := Try.func103.trans (congrArg some (by kernel_rfl))
  f225 := Try.func104.trans (congrArg some (by kernel_rfl))
  f226 := Try.func98.trans (congrArg some (by kernel_rfl))
  f227 := Try.func99.trans (congrArg some (by kernel_rfl))
  f228 := Try.func100.trans (congrArg some (by kernel_rfl))
  f266 := Try.func106.trans (congrArg some (by kernel_rfl))
  t0 := Try.underlying0
  a0 := Try.isAgg0
  z0 := Try.sizeOf0
  v0 := Try.zeroValue0
  t3 := Try.underlying3
  a3 := Try.isAgg3
  z3 := Try.sizeOf3
  v3 := Try.zeroValue3
  t4 := Try.underlying4
  a4 := Try.isAgg4
  z4 := Try.sizeOf4
  v4 := Try.zeroValue4
  t5 := Try.underlying5
  a5 := Try.isAgg5
  z5 := Try.sizeOf5
  v5 := Try.zeroValue5
  t9 := Try.underlying9
  a9 := Try.isAgg9
  z9 := Try.sizeOf9
  v9 := Try.zeroValue9
  t21 := Try.underlying21
  a21 := Try.isAgg21
  z21 := Try.sizeOf21
  v21 := Try.zeroValue21
  t46 := Try.underlying123
  a46 := Try.isAgg123
  z46 := Try.sizeOf123
  v46 := Try.zeroValue123
  t116 := Try.underlying152
  a116 := Try.isAgg152
  z116 := Try.sizeOf152
  t117 := Try.underlying153
  a117 := Try.isAgg153
  z117 := Try.sizeOf153
  v117 := Try.zeroValue153
  t124 := Try.underlying158
  a124 := Try.isAgg158
  z124 := Try.sizeOf158
  v124 := Try.zeroValue158 }
end Go.Proofs

/- strings.IndexRune of "/" and 0 at a rune that isn't ASCII: none. No condition. -/
namespace Go.Proofs.Ytppodbijdhcclaa
open Go.RowKit Go.Shelf
theorem validRune_any (r : Int) (w : World) (hv : Utf8.valid r = true) : Calls Try.prog 102 #[.int .i32 r] w fun e w' => e = .returned (.bool true) ∧ w = w' := by
  simp only [Utf8.valid, Bool.or_eq_true, Bool.and_eq_true, decide_eq_true_eq] at hv
  by_cases h : r < 55296
  · have h1 : 0 ≤ r := by omega
    go_enter Try.func102, Try.ntmps102
    go_wp2
    go_ret
    exact ⟨rfl, rfl⟩
  · have h1 : 0 ≤ r := by omega
    have h2 : 57343 < r := by omega
    have h3 : r ≤ 1114111 := by omega
    go_enter Try.func102, Try.ntmps102
    go_wp2
    go_ret
    exact ⟨rfl, rfl⟩
set_option maxRecDepth 100000 in
set_option maxHeartbeats 2000000 in
theorem indexRune_bad (w : World) : Calls Try.prog 97 #[.string ⟨#[47, 0]⟩, .int .i32 65533] w fun e w' => e = .returned (.int .i64 (-1)) ∧ Below w.heap.size w w' := by
  go_enter Try.func97, Try.ntmps97
  go_wp2
  go_loopg [5, 6] 2 (fun g _ _ wx => ∃ i : Nat, i + g = 2 ∧ wx = w.iter ⟨#[47, 0]⟩ i)
  case atStart => exact ⟨0, by omega, rfl⟩
  case round =>
    obtain ⟨i, hi, rfl⟩ := hrel
    rcases (show i = 0 ∨ i = 1 ∨ i = 2 by omega) with rfl | rfl | rfl
    · obtain rfl : gk = 2 := by omega
      have hn := fun ty => run_next_ascii (P := Try.prog) w ⟨#[47, 0]⟩ 0 ty (by decide) (by decide)
      go_wp2
      go_roundg 1
      case measure => omega
      case rel => exact ⟨1, by omega, rfl⟩
    · obtain rfl : gk = 1 := by omega
      have hn := fun ty => run_next_ascii (P := Try.prog) w ⟨#[47, 0]⟩ 1 ty (by decide) (by decide)
      go_wp2
      go_roundg 0
      case measure => omega
      case rel => exact ⟨2, by omega, rfl⟩
    · obtain rfl : gk = 0 := by omega
      have hn := run_next_end (P := Try.prog) w ⟨#[47, 0]⟩ 2
      go_wp2
      go_ret
      exact ⟨rfl, (Below.refl _ _).alloc (Nat.le_refl _) _⟩
theorem nm_drewN {B : Nat} {a w : World} (h : Below B a w) (n : Nat) : Below B a (w.drewN n) := ⟨h.os, h.tape, h.output, h.size, h.block⟩
theorem two_bytes (E : ByteArray) (h : E.size = 2) : ∃ x y, E = ⟨#[x, y]⟩ := by
  obtain ⟨⟨l⟩⟩ := E
  have hl : l.length = 2 := h
  match l, hl with
  | [x, y], _ => exact ⟨x, y, rfl⟩
set_option maxRecDepth 100000 in
set_option maxHeartbeats 2000000 in
theorem indexRune_high (r : Int) (w : World) (h : 128 ≤ r) (hv : Utf8.valid r = true) (hb : r ≠ 65533) : Calls Try.prog 97 #[.string ⟨#[47, 0]⟩, .int .i32 r] w fun e w' => e = .returned (.int .i64 (-1)) ∧ Below w.heap.size w w' := by
  have h1 : ¬ r < 128 := by omega
  have h0 : 0 ≤ r := by omega
  have d1 : (r == 65533) = false := by simpa using hb
  obtain ⟨f1, f2, f3⟩ := encode_facts r hv h
  obtain ⟨E, hE⟩ : ∃ E, Utf8.encode r = E := ⟨_, rfl⟩
  rw [hE] at f1 f2 f3
  have k1 := run_convert_int_string (P := Try.prog) (k := .i32) (n := r) (src := 21) (dst := 9) (hs := by rw [Try.underlying21]; rfl) (hd := Try.underlying9)
  rw [hE] at k1
  clear hE
  by_cases h3 : 3 ≤ E.size
  · have c1 : ¬ ((E.size : Int) - 1 < 2) := by omega
    clear f3
    go_enter Try.func97, Try.ntmps97
    go_wp2_with (first | (go_at_call 102; refine (validRune_any r _ hv).mono ?_; rintro e w' ⟨rfl, rfl⟩))
    go_step3
    go_wp2
    go_loop [9] (fun i => i = .int .i64 ((E.size : Int) - 1)) (fun _ => 0)
    case atStart => rfl
    case round =>
      subst hrel
      go_wp2
      go_ret
      exact ⟨rfl, Below.refl _ _⟩
  · have hl := f3 (by omega)
    obtain ⟨x, y, rfl⟩ := two_bytes E (by omega)
    have hy : 128 ≤ y.toNat := hl
    clear hl f1 f2 f3 h3
    have d2 : ((0 : Int) != (y.toNat : Int)) = true := by simp; omega
    have kb : ∀ (w : World), Calls Try.prog 101 #[.string ByteArray.empty, .int .u8 (y.toNat : Int)] w fun e w' => e = .returned (.int .i64 (-1)) ∧ w' = w := fun w => Any.strings_IndexByte Try.lays137 ByteArray.empty (y.toNat : Int) w
    go_enter Try.func97, Try.ntmps97
    go_wp2_with (first | (go_at_call 102; refine (validRune_any r _ hv).mono ?_; rintro e w' ⟨rfl, rfl⟩))
    go_step3
    go_wp2
    go_loop [9] (fun i => i = .int .i64 1) (fun _ => 0)
    case atStart => rfl
    case round =>
      subst hrel
      have e0 : ((⟨#[47, 0]⟩ : ByteArray)[1]'(by show 1 < 2; omega)).toNat = 0 := rfl
      have e2 : ((⟨#[x, y]⟩ : ByteArray)[1]'(by show 1 < 2; omega)) = y := rfl
      go_wp2
      go_step3
      go_wp2
      go_region
      go_wp2
      have e1 : IntKind.i64.wrap 2 = 2 := by decide
      have hB := Lib.hid (Below.refl w.heap.size w).drew
      obtain ⟨W, hW⟩ : ∃ W, W = w.drew := ⟨_, rfl⟩
      rw [← hW] at hB ⊢
      clear hW
      go_quiet (first | (go_at_call 101; exact Calls.quiet_of_same (kb _)))
      go_wp2
      refine (show bodyPost Try.prog Try.f97 (fun e w' => e = Ending.returned (Value.int IntKind.i64 (-1)) ∧ Below w.heap.size w w') Exit.ret _ _ from ?_)
      go_ret
      exact ⟨rfl, nm_drewN hB.out _⟩
end Go.Proofs.Ytppodbijdhcclaa

/- Names and paths, plainly. No condition. -/
namespace Go.Proofs.Ytppodbijdhcclaa
open Go Go.RowKit
/-- is it a name? -/
def rightL (l : List UInt8) : Bool := decide (1 ≤ l.length ∧ l.length ≤ 12 ∧ ¬ 47 ∈ l ∧ ¬ 0 ∈ l ∧ l ≠ [46] ∧ l ≠ [46, 46])
/-- what stands between the slashes -/
def cut : List UInt8 → List (List UInt8)
  | [] => [[]]
  | b :: l => if b = 47 then [] :: cut l else (b :: (cut l).headD []) :: (cut l).tail
theorem cut_nil : cut [] = [[]] := rfl
theorem cut_slash (l : List UInt8) : cut (47 :: l) = [] :: cut l := by rw [cut, if_pos rfl]
theorem cut_other {b : UInt8} (h : b ≠ 47) (l : List UInt8) : cut (b :: l) = (b :: (cut l).headD []) :: (cut l).tail := by rw [cut, if_neg h]
theorem cut_pos (l : List UInt8) : 1 ≤ (cut l).length := by
  cases l with
  | nil => simp [cut]
  | cons b l => unfold cut; split <;> simp
theorem cut_le (l : List UInt8) : (cut l).length ≤ l.length + 1 := by
  induction l with
  | nil => simp [cut]
  | cons b l ih => unfold cut; split <;> simp <;> omega
theorem cut_clean {l : List UInt8} (h : ¬ 47 ∈ l) : cut l = [l] := by
  induction l with
  | nil => rfl
  | cons b l ih =>
    simp only [List.mem_cons, not_or] at h
    rw [cut_other (fun e => h.1 e.symm), ih h.2]
    rfl
theorem cut_at (l m : List UInt8) (h : ¬ 47 ∈ l) : cut (l ++ 47 :: m) = l :: cut m := by
  induction l with
  | nil => exact cut_slash m
  | cons b l ih =>
    simp only [List.mem_cons, not_or] at h
    rw [List.cons_append, cut_other (fun e => h.1 e.symm), ih h.2]
    rfl
/-- the pieces joined by slashes -/
def glue : List (List UInt8) → List UInt8
  | [] => []
  | p :: ps => 47 :: p ++ glue ps
theorem glue_cut (l : List UInt8) : glue (cut l) = 47 :: l := by
  induction l with
  | nil => rfl
  | cons b l ih =>
    by_cases hb : b = 47
    · subst hb
      rw [cut_slash]
      simp [glue, ih]
    · rw [cut_other hb]
      rcases hc : cut l with _ | ⟨p, ps⟩
      · have := cut_pos l
        rw [hc] at this
        simp at this
      · rw [hc] at ih
        simp [glue] at ih ⊢
        exact ih
theorem cut_glue : ∀ (ns : List (List UInt8)), ns ≠ [] → (∀ n ∈ ns, ¬ 47 ∈ n) → cut ((glue ns).drop 1) = ns
  | [], h, _ => absurd rfl h
  | [p], _, hr => by simp [glue]; exact cut_clean (hr p (by simp))
  | p :: q :: ps, _, hr => by
    have ih := cut_glue (q :: ps) (by simp) fun n hn => hr n (by simp [hn])
    simp only [glue, List.cons_append, List.drop_succ_cons, List.drop_zero] at ih ⊢
    rw [cut_at p _ (hr p (by simp)), ih]
def splitL (l : List UInt8) : Option (List (List UInt8)) :=
  if l = [47] then some [] else if l.head? = some 47 ∧ (cut (l.drop 1)).length ≤ 6 ∧ (cut (l.drop 1)).all rightL = true then some (cut (l.drop 1)) else none
def joinL (ns : List (List UInt8)) : Option (List UInt8) :=
  if ns.length ≤ 6 ∧ ns.all rightL = true then some (if ns = [] then [47] else glue ns) else none
theorem right_clean {l : List UInt8} (h : rightL l = true) : ¬ 47 ∈ l := (of_decide_eq_true h).2.2.1
theorem right_ne {l : List UInt8} (h : rightL l = true) : l ≠ [] := fun e => by subst e; exact absurd (of_decide_eq_true h).1 (by simp)
theorem glue_ne {ns : List (List UInt8)} (h : ns ≠ []) (hr : ns.all rightL = true) : glue ns ≠ [47] := by
  cases ns with
  | nil => exact absurd rfl h
  | cons p ps =>
    intro e
    simp only [List.all_cons, Bool.and_eq_true] at hr
    simp only [glue, List.cons_append, List.cons.injEq, List.append_eq_nil_iff] at e
    exact right_ne hr.1 e.2.1
theorem join_split {l : List UInt8} {ns : List (List UInt8)} (h : splitL l = some ns) : joinL ns = some l := by
  unfold splitL at h
  split at h
  · rename_i h1
    cases h
    rw [h1]
    rfl
  · split at h
    · rename_i h1 h2
      cases h
      obtain ⟨h2, h3, h4⟩ := h2
      unfold joinL
      rw [if_pos ⟨h3, h4⟩, if_neg (fun e => by have := cut_pos (l.drop 1); rw [e] at this; simp at this), glue_cut]
      cases l with
      | nil => cases h2
      | cons b l => simp at h2; rw [h2]; rfl
    · cases h
theorem split_join {l : List UInt8} {ns : List (List UInt8)} (h : joinL ns = some l) : splitL l = some ns := by
  unfold joinL at h
  split at h
  · rename_i h1
    cases h
    by_cases hn : ns = []
    · subst hn
      rfl
    · rw [if_neg hn]
      unfold splitL
      have hg := cut_glue ns hn fun n hm => right_clean (List.all_eq_true.1 h1.2 n hm)
      rw [if_neg (glue_ne hn h1.2), hg, if_pos ⟨by cases ns with | nil => exact absurd rfl hn | cons p ps => simp [glue], h1⟩]
  · cases h
theorem glue_length {ns : List (List UInt8)} (hr : ns.all rightL = true) : (glue ns).length ≤ 13 * ns.length := by
  induction ns with
  | nil => simp [glue]
  | cons p ps ih =>
    simp only [List.all_cons, Bool.and_eq_true] at hr
    have h1 := ih hr.2
    have h2 := (of_decide_eq_true hr.1).2.1
    simp only [glue, List.length_append, List.length_cons]
    omega
theorem joinL_length {ns : List (List UInt8)} {l : List UInt8} (h : joinL ns = some l) : l.length ≤ 79 := by
  unfold joinL at h
  split at h
  · rename_i h1
    cases h
    have := glue_length h1.2
    split
    · simp
    · omega
  · cases h
theorem splitL_length {l : List UInt8} {ns : List (List UInt8)} (h : splitL l = some ns) : l.length ≤ 79 := joinL_length (join_split h)
theorem splitL_names {l : List UInt8} {ns : List (List UInt8)} (h : splitL l = some ns) : ns.length ≤ 6 ∧ ns.all rightL = true := by
  have := join_split h
  unfold joinL at this
  split at this
  · assumption
  · cases this
theorem glue_append (a b : List (List UInt8)) : glue (a ++ b) = glue a ++ glue b := by
  induction a with
  | nil => rfl
  | cons p ps ih => simp [glue, ih]
/-- strings.Join's text -/
theorem lib_join_glue (ns : List (List UInt8)) (h : ns ≠ []) : (47 :: Lib.join ns [47]) = glue ns := by
  induction ns with
  | nil => exact absurd rfl h
  | cons p ps ih =>
    cases ps with
    | nil => simp [Lib.join, glue]
    | cons q ps =>
      rw [glue, ← ih (by simp)]
      simp [Lib.join, List.intercalate_cons_cons]
/-- strings.SplitN's pieces -/
theorem index_slash (l : List UInt8) : (¬ 47 ∈ l ∧ Lib.index l [47] = -1) ∨ ∃ a m, l = a ++ 47 :: m ∧ ¬ 47 ∈ a ∧ Lib.index l [47] = a.length := by
  induction l with
  | nil => exact .inl ⟨by simp, rfl⟩
  | cons b l ih =>
    by_cases hb : b = 47
    · subst hb
      exact .inr ⟨[], l, rfl, by simp, by simp [Lib.index]⟩
    · rcases ih with ⟨h1, h2⟩ | ⟨a, m, h1, h2, h3⟩
      · refine .inl ⟨by simp only [List.mem_cons, not_or]; exact ⟨fun e => hb e.symm, h1⟩, ?_⟩
        have hp : ([47] : List UInt8).isPrefixOf (b :: l) = false := by simp [List.isPrefixOf]; exact fun e => hb e.symm
        simp [Lib.index, hp, h2]
      · refine .inr ⟨b :: a, m, by rw [h1]; rfl, by simp only [List.mem_cons, not_or]; exact ⟨fun e => hb e.symm, h2⟩, ?_⟩
        have hp : ([47] : List UInt8).isPrefixOf (b :: l) = false := by simp [List.isPrefixOf]; exact fun e => hb e.symm
        have hne : ¬ ((a.length : Int) == -1) = true := fun e => by have := beq_iff_eq.1 e; omega
        unfold Lib.index
        rw [hp, h3, if_neg hne]
        simp
theorem splitK_cut : ∀ (k : Nat) (l : List UInt8), (Lib.splitK [47] 0 k l = cut l ∧ (cut l).length ≤ k + 1) ∨ ((Lib.splitK [47] 0 k l).length = k + 1 ∧ k + 1 < (cut l).length)
  | 0, l => by
    rcases index_slash l with ⟨h1, h2⟩ | ⟨a, m, h1, h2, h3⟩
    · exact .inl ⟨by rw [cut_clean h1]; rfl, by rw [cut_clean h1]; simp⟩
    · refine .inr ⟨rfl, ?_⟩
      rw [h1, cut_at a m h2]
      have := cut_pos m
      simp only [List.length_cons]
      omega
  | k + 1, l => by
    rcases index_slash l with ⟨h1, h2⟩ | ⟨a, m, h1, h2, h3⟩
    · refine .inl ⟨?_, by rw [cut_clean h1]; simp⟩
      rw [cut_clean h1, Lib.splitK, if_pos (by rw [h2]; rfl)]
    · have hne : ¬ (Lib.index l [47] == -1) = true := fun e => by have := beq_iff_eq.1 e; omega
      have hs : Lib.splitK [47] 0 (k + 1) l = a :: Lib.splitK [47] 0 k m := by
        rw [Lib.splitK, if_neg hne, h3]
        subst h1
        simp
      rw [hs, h1, cut_at a m h2]
      rcases splitK_cut k m with ⟨e1, e2⟩ | ⟨e1, e2⟩
      · exact .inl ⟨by rw [e1], by simpa using e2⟩
      · exact .inr ⟨by simpa using e1, by simpa using e2⟩
/-- are all of them names, and few enough? -/
def fitL (ns : List (List UInt8)) : Bool := decide (ns.length ≤ 6) && ns.all rightL
theorem fit_split (l : List UInt8) : (fitL (Lib.splitK [47] 0 (min 7 (l.length + 1) - 1) l) = true ∧ fitL (cut l) = true ∧ Lib.splitK [47] 0 (min 7 (l.length + 1) - 1) l = cut l) ∨ (fitL (Lib.splitK [47] 0 (min 7 (l.length + 1) - 1) l) = false ∧ fitL (cut l) = false) := by
  have hc := cut_le l
  rcases splitK_cut (min 7 (l.length + 1) - 1) l with ⟨e1, e2⟩ | ⟨e1, e2⟩
  · rw [e1]
    cases h : fitL (cut l)
    · exact .inr ⟨rfl, rfl⟩
    · exact .inl ⟨rfl, rfl, rfl⟩
  · refine .inr ⟨?_, ?_⟩
    · unfold fitL
      rw [decide_eq_false (by omega)]
      rfl
    · unfold fitL
      rw [decide_eq_false (by omega)]
      rfl
theorem splitL_slash (r : List UInt8) (h : r ≠ []) : splitL (47 :: r) = if fitL (cut r) = true then some (cut r) else none := by
  unfold splitL fitL
  rw [if_neg (by simpa using h)]
  simp only [List.head?_cons, List.drop_succ_cons, List.drop_zero, true_and, Bool.and_eq_true, decide_eq_true_eq]
theorem splitL_other {l : List UInt8} (h : l.head? ≠ some 47) : splitL l = none := by
  unfold splitL
  rw [if_neg (fun e => h (by rw [e]; rfl)), if_neg (fun e => h e.1)]
theorem joinL_fit (ns : List (List UInt8)) : joinL ns = if fitL ns = true then some (if ns = [] then [47] else glue ns) else none := by
  unfold joinL fitL
  simp only [Bool.and_eq_true, decide_eq_true_eq]
/-- is the first text a path that the second one is, or is above? -/
def withinL (p t : List UInt8) : Bool :=
  match splitL p, splitL t with
  | some a, some b => b.isPrefixOf a
  | _, _ => false
theorem within_more {p q : List UInt8} {a m : List (List UInt8)} (h1 : splitL p = some a) (h2 : joinL (a ++ m) = some q) : withinL q p = true ∧ withinL p q = decide (m = []) := by
  have h3 := split_join h2
  unfold withinL
  rw [h3, h1]
  refine ⟨?_, ?_⟩
  · simp
  · cases m with
    | nil => simp
    | cons x m =>
      simp only [reduceCtorEq, decide_false]
      rcases hx : (a ++ x :: m).isPrefixOf a with _ | _
      · rfl
      · have := (List.isPrefixOf_iff_prefix.1 hx).length_le
        simp only [List.length_append, List.length_cons] at this
        omega
theorem containsAny_right (l : List UInt8) : Lib.containsAny l [47, 0] = decide (47 ∈ l ∨ 0 ∈ l) := by
  unfold Lib.containsAny
  induction l with
  | nil => simp [Lib.indexAny]
  | cons b l ih =>
    have hge := Lib.indexAny_ge [47, 0] l
    by_cases hb : b = 47 ∨ b = 0
    · have hc : ([47, 0] : List UInt8).contains b = true := by rcases hb with rfl | rfl <;> decide
      have hd : (47 ∈ b :: l ∨ 0 ∈ b :: l) := by rcases hb with rfl | rfl <;> simp
      rw [Lib.indexAny, if_pos hc, decide_eq_true hd]
      rfl
    · have hc : ([47, 0] : List UInt8).contains b = false := by simp only [List.contains_cons, List.contains_nil, Bool.or_false, Bool.or_eq_false_iff, beq_eq_false_iff_ne]; exact ⟨fun e => hb (.inl e), fun e => hb (.inr e)⟩
      have hd : (47 ∈ b :: l ∨ 0 ∈ b :: l) ↔ (47 ∈ l ∨ 0 ∈ l) := by
        simp only [List.mem_cons]
        constructor
        · rintro ((e | e) | (e | e))
          · exact absurd (.inl e.symm) hb
          · exact .inl e
          · exact absurd (.inr e.symm) hb
          · exact .inr e
        · rintro (e | e)
          · exact .inl (.inr e)
          · exact .inr (.inr e)
      rw [Lib.indexAny, if_neg (by rw [hc]; simp), decide_eq_decide.2 hd, ← ih]
      split
      · rename_i h1
        rw [beq_iff_eq.1 h1]
      · rename_i h1
        have : Lib.indexAny l [47, 0] ≠ -1 := fun e => h1 (beq_iff_eq.2 e)
        exact decide_eq_decide.2 (by omega)
end Go.Proofs.Ytppodbijdhcclaa

/- What Right of name answers, of any text. No condition. -/
namespace Go.Proofs.Ytppodbijdhcclaa
open Go.RowKit Go.Shelf
/-- a byte that isn't ASCII begins none but such bytes -/
theorem decode_covers (s : ByteArray) (pos : Nat) (h : pos < s.size) (ha : 128 ≤ (s[pos]'h).toNat) :
    pos + (Utf8.decode s pos).2 ≤ s.size ∧ ∀ j, pos ≤ j → j < pos + (Utf8.decode s pos).2 → 128 ≤ (s.get! j).toNat := by
  have h0 : (s.get! (pos + 0)).toNat = (s[pos]'h).toNat := by rw [get_at s pos h]
  have hn : ¬ (s[pos]'h).toNat < 128 := by omega
  have one : pos + 1 ≤ s.size ∧ ∀ j, pos ≤ j → j < pos + 1 → 128 ≤ (s.get! j).toNat := ⟨by omega, fun j h1 h2 => by
    obtain rfl : j = pos := by omega
    have := h0
    simp only [Nat.add_zero] at this
    omega⟩
  have at0 : 128 ≤ (s.get! pos).toNat := by simpa using (by omega : 128 ≤ (s.get! (pos + 0)).toNat)
  have two : ∀ k, (decide (pos + k < s.size) && (s.get! (pos + k)).toNat / 64 == 2) = true → pos + k < s.size ∧ 128 ≤ (s.get! (pos + k)).toNat := fun k hk => by
    simp only [Bool.and_eq_true, decide_eq_true_eq, beq_iff_eq] at hk
    omega
  simp only [Utf8.decode, get_at s pos h, hn, if_false]
  split
  · rename_i c1
    simp only [Bool.and_eq_true] at c1
    obtain ⟨a1, a2⟩ := two 1 (by simpa only [Bool.and_eq_true] using c1.2)
    split
    · refine ⟨by show pos + 2 ≤ s.size; omega, fun j j1 j2 => ?_⟩
      have j2' : j < pos + 2 := j2
      rcases (show j = pos ∨ j = pos + 1 by omega) with rfl | rfl
      · exact at0
      · exact a2
    · exact one
  · split
    · rename_i c1
      simp only [Bool.and_eq_true] at c1
      obtain ⟨a1, a2⟩ := two 1 (by simpa only [Bool.and_eq_true] using c1.1.2)
      obtain ⟨b1, b2⟩ := two 2 (by simpa only [Bool.and_eq_true] using c1.2)
      split
      · refine ⟨by show pos + 3 ≤ s.size; omega, fun j j1 j2 => ?_⟩
        have j2' : j < pos + 3 := j2
        rcases (show j = pos ∨ j = pos + 1 ∨ j = pos + 2 by omega) with rfl | rfl | rfl
        · exact at0
        · exact a2
        · exact b2
      · exact one
    · split
      · rename_i c1
        simp only [Bool.and_eq_true] at c1
        obtain ⟨a1, a2⟩ := two 1 (by simpa only [Bool.and_eq_true] using c1.1.1.2)
        obtain ⟨b1, b2⟩ := two 2 (by simpa only [Bool.and_eq_true] using c1.1.2)
        obtain ⟨d1, d2⟩ := two 3 (by simpa only [Bool.and_eq_true] using c1.2)
        split
        · refine ⟨by show pos + 4 ≤ s.size; omega, fun j j1 j2 => ?_⟩
          have j2' : j < pos + 4 := j2
          rcases (show j = pos ∨ j = pos + 1 ∨ j = pos + 2 ∨ j = pos + 3 by omega) with rfl | rfl | rfl | rfl
          · exact at0
          · exact a2
          · exact b2
          · exact d2
        · exact one
      · exact one
theorem decode_valid (s : ByteArray) (pos : Nat) (h : pos < s.size) (ha : 128 ≤ (s[pos]'h).toNat) : Utf8.valid ((Utf8.decode s pos).1 : Int) = true ∨ (Utf8.decode s pos).1 = 65533 := by
  have hb : ∀ k, (s.get! (pos + k)).toNat < 256 := fun k => (s.get! (pos + k)).toNat_lt
  have h1 := hb 1; have h2 := hb 2; have h3 := hb 3
  have hs := (s[pos]'h).toNat_lt
  have hn : ¬ (s[pos]'h).toNat < 128 := by omega
  simp only [Utf8.decode, get_at s pos h, hn, if_false]
  repeat' split
  all_goals simp_all [Utf8.runeError, Utf8.valid]
  all_goals omega
/-- none of the first i bytes is a slash or 0 -/
def NoBad (s : ByteArray) (i : Nat) : Prop := ∀ j, j < i → (s.get! j) ≠ 47 ∧ (s.get! j) ≠ 0
theorem get!_at (s : ByteArray) (j : Nat) (h : j < s.size) : s.data.toList[j]? = some (s.get! j) := by
  have h1 : s.get! j = s[j]'h := by simpa using get_at s j h
  rw [h1]
  exact Lib.data_getElem? s j h
theorem noBad_all {s : ByteArray} (h : NoBad s s.size) : ¬ (47 ∈ s.data.toList ∨ 0 ∈ s.data.toList) := by
  have key : ∀ b ∈ s.data.toList, b ≠ 47 ∧ b ≠ 0 := fun b hb => by
    obtain ⟨j, hj⟩ := List.mem_iff_getElem?.1 hb
    have hl : j < s.size := by
      rw [Lib.size_eq]
      exact (List.getElem?_eq_some_iff.1 hj).1
    rw [get!_at s j hl] at hj
    rw [← Option.some.inj hj]
    exact h j hl
  rintro (h1 | h1)
  · exact (key _ h1).1 rfl
  · exact (key _ h1).2 rfl
theorem bad_at {s : ByteArray} {i : Nat} (hi : i < s.size) (h : s.get! i = 47 ∨ s.get! i = 0) : 47 ∈ s.data.toList ∨ 0 ∈ s.data.toList := by
  have hm := List.mem_of_getElem? (get!_at s i hi)
  rcases h with h | h <;> rw [h] at hm
  · exact .inl hm
  · exact .inr hm
theorem wide (n : Nat) (h : n < 256) : ((n : Int)).toNat.toUInt8.toNat = n := by simp; omega
def itSet (w : World) (b : Nat) (s : ByteArray) (pos : Nat) : World := { w with heap := w.heap.setIfInBounds b (.stringIter s pos) }
theorem itSet_heap {w : World} {b : Nat} {o : Obj} (h : w.heap[b]? = some o) (s : ByteArray) (pos : Nat) : (itSet w b s pos).heap[b]? = some (.stringIter s pos) := by
  have hb : b < w.heap.size := (Array.getElem?_eq_some_iff.1 h).1
  simp [itSet, hb]
theorem itSet_below {B : Nat} {a w : World} (h : Below B a w) (b : Nat) (hb : B ≤ b) (s : ByteArray) (pos : Nat) : Below B a (itSet w b s pos) :=
  ⟨h.os, h.tape, h.output, by simpa [itSet] using h.size, fun k hk => by
    have : b ≠ k := by omega
    have e : (itSet w b s pos).heap[k]? = w.heap[k]? := by simp [itSet, this]
    rw [e]
    exact h.block k hk⟩
theorem run_next_at {P : Program} (w : World) (b : Nat) (s : ByteArray) (pos : Nat) (ty : TypeId) (hb : w.heap[b]? = some (.stringIter s pos)) (h : pos < s.size) :
    (Instr.next (.pointer (some ⟨b, 0, none⟩)) true ty).run P w = .ok (.tuple #[.bool true, .int .i64 pos, .int .i32 (Utf8.decode s pos).1]) (itSet w b s (pos + (Utf8.decode s pos).2)) := by
  simp only [Instr.next, getObj, setObj, Sem.run_bind, Sem.run, hb, Result.andThen, h, if_true]
  simp [goInt, itSet]
theorem run_next_done {P : Program} (w : World) (b : Nat) (s : ByteArray) (pos : Nat) (ty : TypeId) (hb : w.heap[b]? = some (.stringIter s pos)) (h : ¬ pos < s.size) :
    (Instr.next (.pointer (some ⟨b, 0, none⟩)) true ty).run P w = .ok (.tuple #[.bool false]) w := by
  simp [Instr.next, getObj, Sem.run, hb, h]
set_option maxHeartbeats 8000000 in
set_option maxRecDepth 1000000 in
theorem indexAny_short (s : ByteArray) (w : World) (h8 : s.size ≤ 8) :
    Calls Try.prog 96 #[.string s, .string ⟨#[47, 0]⟩] w fun e w' => ∃ r : Int, e = .returned (.int .i64 r) ∧ decide (0 ≤ r) = decide (47 ∈ s.data.toList ∨ 0 ∈ s.data.toList) ∧ Below w.heap.size w w' := by
  have h8z : decide ((8 : Int) < (s.size : Int)) = false := decide_eq_false (by omega)
  have BI : Hid (Below w.heap.size w (w.iter s 0)) := Lib.hid ((Below.refl _ _).alloc (Nat.le_refl _) _)
  have HI : Hid ((w.iter s 0).heap[w.heap.size]? = some (.stringIter s 0)) := Lib.hid (World.iter_heap w s 0)
  obtain ⟨b, hb⟩ : ∃ b, w.heap.size = b := ⟨_, rfl⟩
  rw [hb] at BI HI ⊢
  have HBb := Lib.hid hb
  go_enter Try.func96, Try.ntmps96
  go_wp2_with (go_at_call 98; refine (Any.strings_shouldUseASCIISet Try.lays226 _ _).mono ?_; rintro e w' ⟨rfl, hw⟩; rw [hw, h8z])
  clear hb
  go_loopg [9, 10] s.size (fun g _ _ wx => ∃ i : Nat, i + g = s.size ∧ Below b w wx ∧ wx.heap[b]? = some (.stringIter s i) ∧ NoBad s i)
  case atStart => exact ⟨0, by omega, BI.out, HI.out, fun j hj => absurd hj (by omega)⟩
  case round =>
    obtain ⟨i, hig, hB, hit, hno⟩ := hrel
    have HN := Lib.hid hno
    have HB := Lib.hid hB
    have HT := Lib.hid hit
    clear hno hB BI HI
    cases gk with
    | zero =>
      obtain rfl : i = s.size := by omega
      have hnx := fun ty => run_next_done (P := Try.prog) wr b s s.size ty hit (by omega)
      clear hit
      go_wp2
      go_ret
      exact ⟨_, rfl, by rw [decide_eq_false (noBad_all HN.out)]; rfl, HB.out⟩
    | succ g =>
      have hi : i < s.size := by omega
      have hgx : s.get! i = s[i]'hi := by simpa using get_at s i hi
      have hnx := fun ty => run_next_at (P := Try.prog) wr b s i ty hit hi
      clear hit
      obtain ⟨x, hx⟩ : ∃ x : UInt8, s[i]'hi = x := ⟨_, rfl⟩
      rw [hx] at hgx
      have HG := Lib.hid hgx
      clear hgx
      have HS : Hid (∀ k, Below b w (itSet wr b s k)) := Lib.hid fun k => itSet_below HB.out b (Nat.le_refl _) s k
      have HI : Hid (∀ k, (itSet wr b s k).heap[b]? = some (.stringIter s k)) := Lib.hid fun k => itSet_heap HT.out s k
      by_cases hx128 : x.toNat < 128
      · have hd := decode_ascii s i hi (by rw [hx]; exact hx128)
        rw [hx] at hd
        rw [hd] at hnx
        clear hd hx
        obtain ⟨W, hW⟩ : ∃ W, W = itSet wr b s (i + 1) := ⟨_, rfl⟩
        have HS1 := Lib.hid (HS.out (i + 1))
        have HI1 := Lib.hid (HI.out (i + 1))
        rw [← hW] at HS1 HI1
        simp only at hnx
        rw [← hW] at hnx
        clear hW HS HI
        by_cases hbad : x = 47 ∨ x = 0
        · have hge : (0 : Int) ≤ Lib.indexByte [47, 0] x := by rcases hbad with rfl | rfl <;> decide
          have HBD := Lib.hid hbad
          clear hbad
          have KA : Hid (∀ w, Calls Try.prog 97 #[.string ⟨#[47, 0]⟩, .int .i32 (x.toNat : Int)] w fun e w' => e = .returned (.int .i64 (Lib.indexByte [47, 0] x)) ∧ w' = w) := Lib.hid fun w => by
            have k := Any.strings_IndexRune_ascii Try.lays152 ⟨#[47, 0]⟩ (x.toNat : Int) w (by omega) (by omega)
            rw [show ((x.toNat : Int)).toNat.toUInt8 = x by simp] at k
            exact k
          go_wp2_with (go_at_call 97; refine (KA.out _).mono ?_; rintro e w' ⟨rfl, rfl⟩)
          go_ret
          exact ⟨_, rfl, by rw [decide_eq_true (bad_at hi (by rw [HG.out]; exact HBD.out)), decide_eq_true (by omega)], HS1.out⟩
        · have hlt : ¬ ((0 : Int) ≤ Lib.indexByte [47, 0] x) := by
            have e1 : (47 == x) = false := beq_eq_false_iff_ne.2 fun e => hbad (.inl e.symm)
            have e2 : (0 == x) = false := beq_eq_false_iff_ne.2 fun e => hbad (.inr e.symm)
            simp [Lib.indexByte, e1, e2]
          have HBD := Lib.hid hbad
          clear hbad
          have KA : Hid (∀ w, Calls Try.prog 97 #[.string ⟨#[47, 0]⟩, .int .i32 (x.toNat : Int)] w fun e w' => e = .returned (.int .i64 (Lib.indexByte [47, 0] x)) ∧ w' = w) := Lib.hid fun w => by
            have k := Any.strings_IndexRune_ascii Try.lays152 ⟨#[47, 0]⟩ (x.toNat : Int) w (by omega) (by omega)
            rw [show ((x.toNat : Int)).toNat.toUInt8 = x by simp] at k
            exact k
          go_wp2_with (go_at_call 97; refine (KA.out _).mono ?_; rintro e w' ⟨rfl, rfl⟩)
          go_roundg g
          case measure => omega
          case rel => exact ⟨i + 1, by omega, HS1.out, HI1.out, fun j hj => by
            rcases (show j < i ∨ j = i by omega) with h | rfl
            · exact HN.out j h
            · rw [HG.out]
              exact ⟨fun e => HBD.out (.inl e), fun e => HBD.out (.inr e)⟩⟩
      · have hhigh : 128 ≤ (s[i]'hi).toNat := by rw [hx]; omega
        have hdv := decode_valid s i hi hhigh
        have hdc := decode_covers s i hi hhigh
        have hdh := decode_high s i hi hhigh
        obtain ⟨c, wd, hcw⟩ : ∃ c wd, Utf8.decode s i = (c, wd) := ⟨_, _, rfl⟩
        rw [hcw] at hdv hdc hdh hnx
        simp only at hdv hdc hdh hnx
        have HD := Lib.hid hdc
        obtain ⟨W, hW⟩ : ∃ W, W = itSet wr b s (i + wd) := ⟨_, rfl⟩
        have HS1 := Lib.hid (HS.out (i + wd))
        have HI1 := Lib.hid (HI.out (i + wd))
        rw [← hW] at HS1 HI1 hnx
        clear hW HS HI hcw hhigh hx
        have KR : Hid (∀ w, Calls Try.prog 97 #[.string ⟨#[47, 0]⟩, .int .i32 (c : Int)] w fun e w' => e = .returned (.int .i64 (-1)) ∧ Below w.heap.size w w') := Lib.hid fun w => by
          by_cases h3 : c = 65533
          · subst h3
            exact indexRune_bad w
          · refine indexRune_high c w (by omega) ?_ (by omega)
            rcases hdv with h | h
            · exact h
            · exact absurd h h3
        have hw1 : 1 ≤ wd := hdh.2
        have hs1 : i + wd ≤ s.size := hdc.1
        clear hdv hdh hdc
        go_wp2_with (go_at_call 97; refine (KR.out _).mono ?_; rintro e w9 ⟨rfl, h9⟩)
        have HS9 := Lib.hid (HS1.out.trans (h9.mono (HBb.out ▸ HS1.out.size)))
        have HI9 : Hid (w9.heap[b]? = some (.stringIter s (i + wd))) := Lib.hid ((h9.block b (Array.getElem?_eq_some_iff.1 HI1.out).1).trans HI1.out)
        clear h9
        go_roundg (s.size - (i + wd))
        case measure => omega
        case rel => exact ⟨i + wd, by omega, HS9.out, HI9.out, fun j hj => by
          by_cases h : j < i
          · exact HN.out j h
          · have h1 := HD.out.2 j (by omega) hj
            refine ⟨fun e => ?_, fun e => ?_⟩ <;> rw [e] at h1 <;> exact absurd h1 (by decide)⟩
theorem containsAny_any (s : ByteArray) (w : World) (h12 : s.size ≤ 12) :
    Calls Try.prog 94 #[.string s, .string ⟨#[47, 0]⟩] w fun e w' => e = .returned (.bool (decide (47 ∈ s.data.toList ∨ 0 ∈ s.data.toList))) ∧ Below w.heap.size w w' := by
  have K : Hid (Calls Try.prog 96 #[.string s, .string ⟨#[47, 0]⟩] w fun e w' => ∃ r : Int, e = .returned (.int .i64 r) ∧ decide (0 ≤ r) = decide (47 ∈ s.data.toList ∨ 0 ∈ s.data.toList) ∧ Below w.heap.size w w') := Lib.hid (by
    by_cases h8 : s.size ≤ 8
    · exact indexAny_short s w h8
    · have h116 : (Try.prog.info? (Try.lays153_ren.t 116)).map (fun i => (i.zero, i.size)) = some (some (.agg (Array.replicate 256 (.bool false))), 256) := by kernel_rfl
      have z := zero_of_info h116
      refine (Any.strings_IndexAny_long Try.lays153 z.1 z.2 s ⟨#[47, 0]⟩ w (by decide) (by omega) (by omega) (by decide) (fun j b hj => ?_)).mono ?_
      · match j with
        | 0 => cases hj; decide
        | 1 => cases hj; decide
        | j + 2 => cases hj
      · rintro e w' ⟨rfl, rfl⟩
        refine ⟨_, rfl, containsAny_right s.data.toList, ((Below.refl _ _).alloc (Nat.le_refl _) _).alloc (by simp) _⟩)
  obtain ⟨b, hb⟩ : ∃ b, decide (47 ∈ s.data.toList ∨ 0 ∈ s.data.toList) = b := ⟨_, rfl⟩
  rw [hb] at K ⊢
  clear hb
  go_enter Try.func94, Try.ntmps94
  go_wp2_with (go_at_call 96; refine K.out.mono ?_; rintro e w1 ⟨r, rfl, hr, hb⟩)
  go_ret
  exact ⟨rfl, hb⟩
set_option maxHeartbeats 2000000 in
set_option maxRecDepth 100000 in
/-- Right, of any text -/
theorem right_any (s : ByteArray) (w : World) : Calls Try.prog 92 #[.string s] w fun e w' => e = .returned (.bool (rightL s.data.toList)) ∧ Below w.heap.size w w' := by
  have hsz := Lib.size_eq s
  by_cases h1 : 1 ≤ s.size
  · by_cases h12 : s.size ≤ 12
    · have i1 : (1 : Int) ≤ (s.size : Int) := by omega
      have i2 : (s.size : Int) ≤ 12 := by omega
      obtain ⟨b, hb⟩ : ∃ b, decide (47 ∈ s.data.toList ∨ 0 ∈ s.data.toList) = b := ⟨_, rfl⟩
      have K := Lib.hid (containsAny_any s w h12)
      rw [hb] at K
      have HB := Lib.hid hb
      clear hb
      have d1 : rightL s.data.toList = (!b && s.toList != [46] && s.toList != [46, 46]) := by
        rw [← HB.out, Lib.toList_data]
        unfold rightL
        rw [← hsz]
        by_cases c1 : (47 ∈ s.data.toList ∨ 0 ∈ s.data.toList)
        · rw [decide_eq_true c1, decide_eq_false]
          · rfl
          · rintro ⟨_, _, c2, c3, _⟩
            rcases c1 with c | c
            · exact c2 c
            · exact c3 c
        · rw [decide_eq_false c1]
          have c2 : ¬ 47 ∈ s.data.toList := fun c => c1 (.inl c)
          have c3 : ¬ 0 ∈ s.data.toList := fun c => c1 (.inr c)
          simp only [h1, h12, c2, c3, true_and, not_false_eq_true, Bool.not_false, Bool.true_and]
          rw [Bool.eq_iff_iff]
          simp
      rw [d1]
      clear d1 hsz h1 h12
      go_enter Try.func92, Try.ntmps92
      go_wp2_with (go_at_call 94; refine K.out.mono ?_; rintro e w1 ⟨rfl, hb⟩)
      all_goals
        go_ret
        refine ⟨?_, hb⟩
        clear K HB hb
        simp_all
        try rfl
    · have i1 : (1 : Int) ≤ (s.size : Int) := by omega
      have i2 : ¬ (s.size : Int) ≤ 12 := by omega
      have d1 : rightL s.data.toList = false := decide_eq_false fun h => by have := h.2.1; omega
      rw [d1]
      clear d1 hsz
      go_enter Try.func92, Try.ntmps92
      go_wp2
      go_ret
      exact ⟨rfl, Below.refl _ _⟩
  · have i1 : ¬ (1 : Int) ≤ (s.size : Int) := by omega
    have d1 : rightL s.data.toList = false := decide_eq_false fun h => by have := h.1; omega
    rw [d1]
    clear d1 hsz
    go_enter Try.func92, Try.ntmps92
    go_wp2
    go_ret
    exact ⟨rfl, Below.refl _ _⟩
theorem rightL_all {s : ByteArray} (h1 : 1 ≤ s.size) (h2 : s.size ≤ 12) (h3 : s.toList ≠ [46]) (h4 : s.toList ≠ [46, 46]) : rightL s.data.toList = !decide (47 ∈ s.data.toList ∨ 0 ∈ s.data.toList) := by
  rw [Lib.toList_data] at h3 h4
  have hsz := Lib.size_eq s
  unfold rightL
  rw [← hsz]
  by_cases c1 : (47 ∈ s.data.toList ∨ 0 ∈ s.data.toList)
  · rw [decide_eq_true c1, decide_eq_false]
    · rfl
    · rintro ⟨_, _, c2, c3, _⟩
      rcases c1 with c | c
      · exact c2 c
      · exact c3 c
  · rw [decide_eq_false c1]
    exact decide_eq_true ⟨h1, h2, fun c => c1 (.inl c), fun c => c1 (.inr c), h3, h4⟩
set_option maxHeartbeats 2000000 in
set_option maxRecDepth 100000 in
/-- the document's -/
theorem refRight_any (s : ByteArray) (w : World) : Calls Try.prog 89 #[.string s] w fun e w' => e = .returned (.bool (rightL s.data.toList)) ∧ w = w' := by
  have hsz := Lib.size_eq s
  by_cases h1 : 1 ≤ s.size
  · by_cases h12 : s.size ≤ 12
    · have i1 : ¬ (s.size : Int) < 1 := by omega
      have i2 : (s.size : Int) ≤ 12 := by omega
      by_cases h3 : s.toList = [46]
      · have d1 : rightL s.data.toList = false := decide_eq_false fun h => h.2.2.2.2.1 (by rw [← Lib.toList_data]; exact h3)
        rw [d1]
        clear d1 hsz
        go_enter Try.func89, Try.ntmps89
        go_wp2
        go_ret
        exact ⟨rfl, rfl⟩
      · by_cases h4 : s.toList = [46, 46]
        · have d1 : rightL s.data.toList = false := decide_eq_false fun h => h.2.2.2.2.2 (by rw [← Lib.toList_data]; exact h4)
          rw [d1]
          clear d1 hsz
          go_enter Try.func89, Try.ntmps89
          go_wp2
          go_ret
          exact ⟨rfl, rfl⟩
        · have HR := Lib.hid (rightL_all h1 h12 h3 h4)
          have g3 : (s.toList == [46]) = false := by simpa using h3
          have g4 : (s.toList == [46, 46]) = false := by simpa using h4
          clear h3 h4 hsz
          obtain ⟨R, hR⟩ : ∃ R, rightL s.data.toList = R := ⟨_, rfl⟩
          rw [hR] at HR ⊢
          clear hR
          go_enter Try.func89, Try.ntmps89
          go_wp2
          go_loop [3] (fun i => ∃ k : Nat, k ≤ s.size ∧ i = .int .i64 k ∧ Hid (NoBad s k)) (fun i => s.size - (intOf i).toNat)
          case atStart => exact ⟨0, by omega, rfl, Lib.hid fun j hj => absurd hj (by omega)⟩
          case round =>
            obtain ⟨k, hk, rfl, hno⟩ := hrel
            rcases Nat.lt_or_ge k s.size with hlt | hge
            · have i3 : (k : Int) < (s.size : Int) := by omega
              have hgx : s.get! k = s[k]'hlt := by simpa using get_at s k hlt
              obtain ⟨x, hx⟩ : ∃ x : UInt8, s[k]'hlt = x := ⟨_, rfl⟩
              rw [hx] at hgx
              have HG := Lib.hid hgx
              clear hgx
              by_cases hb : x = 47 ∨ x = 0
              · have hbad := bad_at hlt (by rw [HG.out]; exact hb)
                have hv := HR.out
                rw [decide_eq_true hbad] at hv
                subst hv
                clear hbad HR
                rcases hb with rfl | rfl
                · go_wp2
                  go_ret
                  exact ⟨rfl, rfl⟩
                · go_wp2
                  go_ret
                  exact ⟨rfl, rfl⟩
              · have e1 : ((x.toNat : Int) == 47) = false := beq_eq_false_iff_ne.2 fun e => hb (.inl (UInt8.toNat_inj.1 (by show x.toNat = 47; omega)))
                have e2 : ((x.toNat : Int) == 0) = false := beq_eq_false_iff_ne.2 fun e => hb (.inr (UInt8.toNat_inj.1 (by show x.toNat = 0; omega)))
                have HBD := Lib.hid hb
                clear hb
                go_wp2
                go_round
                case rel => exact ⟨k + 1, by omega, by go_num, Lib.hid fun j hj => by
                  rcases (show j < k ∨ j = k by omega) with h | rfl
                  · exact hno.out j h
                  · rw [HG.out]
                    exact ⟨fun e => HBD.out (.inl e), fun e => HBD.out (.inr e)⟩⟩
                case measure => simp [intOf]; omega
            · obtain rfl : k = s.size := by omega
              have hv := HR.out
              rw [decide_eq_false (noBad_all hno.out)] at hv
              subst hv
              clear HR hno hge
              go_wp2
              go_ret
              exact ⟨rfl, rfl⟩
    · have i1 : ¬ (s.size : Int) < 1 := by omega
      have i2 : (12 : Int) < (s.size : Int) := by omega
      have d1 : rightL s.data.toList = false := decide_eq_false fun h => by have := h.2.1; omega
      rw [d1]
      clear d1 hsz
      go_enter Try.func89, Try.ntmps89
      go_wp2
      go_ret
      exact ⟨rfl, rfl⟩
  · have i1 : (s.size : Int) < 1 := by omega
    have d1 : rightL s.data.toList = false := decide_eq_false fun h => by have := h.1; omega
    rw [d1]
    clear d1 hsz
    go_enter Try.func89, Try.ntmps89
    go_wp2
    go_ret
    exact ⟨rfl, rfl⟩
end Go.Proofs.Ytppodbijdhcclaa


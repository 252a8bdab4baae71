/- What Right of name answers, of any text. No condition. -/
import Derived.Test.YtkpojlnfagonbaaQNameRune
import Derived.Test.YtkpojlnfagonbaaQNameM
import Derived.Shelf.Strings.IndexAnyAll
namespace Go.Proofs.Ytkpojlnfagonbaa
open Go.RowKit Go.Shelf
/-- a byte that isn't ASCII begins none but such bytes -/
theorem decode_covers (s : ByteArray) (pos : Nat) (h : pos < s.size) (ha : 128 ≤ (s[pos]'h).toNat) :
    pos + (Utf8.decode s pos).2 ≤ s.size ∧ ∀ j, pos ≤ j → j < pos + (Utf8.decode s pos).2 → 128 ≤ (s.get! j).toNat := by
  have h0 : (s.get! (pos + 0)).toNat = (s[pos]'h).toNat := by rw [get_at s pos h]
  have hn : ¬ (s[pos]'h).toNat < 128 := by omega
  have one : pos + 1 ≤ s.size ∧ ∀ j, pos ≤ j → j < pos + 1 → 128 ≤ (s.get! j).toNat := ⟨by omega, fun j h1 h2 => by
    obtain rfl : j = pos := by omega
    have := h0
    simp only [Nat.add_zero] at this
    omega⟩
  have at0 : 128 ≤ (s.get! pos).toNat := by simpa using (by omega : 128 ≤ (s.get! (pos + 0)).toNat)
  have two : ∀ k, (decide (pos + k < s.size) && (s.get! (pos + k)).toNat / 64 == 2) = true → pos + k < s.size ∧ 128 ≤ (s.get! (pos + k)).toNat := fun k hk => by
    simp only [Bool.and_eq_true, decide_eq_true_eq, beq_iff_eq] at hk
    omega
  simp only [Utf8.decode, get_at s pos h, hn, if_false]
  split
  · rename_i c1
    simp only [Bool.and_eq_true] at c1
    obtain ⟨a1, a2⟩ := two 1 (by simpa only [Bool.and_eq_true] using c1.2)
    split
    · refine ⟨by show pos + 2 ≤ s.size; omega, fun j j1 j2 => ?_⟩
      have j2' : j < pos + 2 := j2
      rcases (show j = pos ∨ j = pos + 1 by omega) with rfl | rfl
      · exact at0
      · exact a2
    · exact one
  · split
    · rename_i c1
      simp only [Bool.and_eq_true] at c1
      obtain ⟨a1, a2⟩ := two 1 (by simpa only [Bool.and_eq_true] using c1.1.2)
      obtain ⟨b1, b2⟩ := two 2 (by simpa only [Bool.and_eq_true] using c1.2)
      split
      · refine ⟨by show pos + 3 ≤ s.size; omega, fun j j1 j2 => ?_⟩
        have j2' : j < pos + 3 := j2
        rcases (show j = pos ∨ j = pos + 1 ∨ j = pos + 2 by omega) with rfl | rfl | rfl
        · exact at0
        · exact a2
        · exact b2
      · exact one
    · split
      · rename_i c1
        simp only [Bool.and_eq_true] at c1
        obtain ⟨a1, a2⟩ := two 1 (by simpa only [Bool.and_eq_true] using c1.1.1.2)
        obtain ⟨b1, b2⟩ := two 2 (by simpa only [Bool.and_eq_true] using c1.1.2)
        obtain ⟨d1, d2⟩ := two 3 (by simpa only [Bool.and_eq_true] using c1.2)
        split
        · refine ⟨by show pos + 4 ≤ s.size; omega, fun j j1 j2 => ?_⟩
          have j2' : j < pos + 4 := j2
          rcases (show j = pos ∨ j = pos + 1 ∨ j = pos + 2 ∨ j = pos + 3 by omega) with rfl | rfl | rfl | rfl
          · exact at0
          · exact a2
          · exact b2
          · exact d2
        · exact one
      · exact one
theorem decode_valid (s : ByteArray) (pos : Nat) (h : pos < s.size) (ha : 128 ≤ (s[pos]'h).toNat) : Utf8.valid ((Utf8.decode s pos).1 : Int) = true ∨ (Utf8.decode s pos).1 = 65533 := by
  have hb : ∀ k, (s.get! (pos + k)).toNat < 256 := fun k => (s.get! (pos + k)).toNat_lt
  have h1 := hb 1; have h2 := hb 2; have h3 := hb 3
  have hs := (s[pos]'h).toNat_lt
  have hn : ¬ (s[pos]'h).toNat < 128 := by omega
  simp only [Utf8.decode, get_at s pos h, hn, if_false]
  repeat' split
  all_goals simp_all [Utf8.runeError, Utf8.valid]
  all_goals omega
/-- none of the first i bytes is a slash or 0 -/
def NoBad (s : ByteArray) (i : Nat) : Prop := ∀ j, j < i → (s.get! j) ≠ 47 ∧ (s.get! j) ≠ 0
theorem get!_at (s : ByteArray) (j : Nat) (h : j < s.size) : s.data.toList[j]? = some (s.get! j) := by
  have h1 : s.get! j = s[j]'h := by simpa using get_at s j h
  rw [h1]
  exact Lib.data_getElem? s j h
theorem noBad_all {s : ByteArray} (h : NoBad s s.size) : ¬ (47 ∈ s.data.toList ∨ 0 ∈ s.data.toList) := by
  have key : ∀ b ∈ s.data.toList, b ≠ 47 ∧ b ≠ 0 := fun b hb => by
    obtain ⟨j, hj⟩ := List.mem_iff_getElem?.1 hb
    have hl : j < s.size := by
      rw [Lib.size_eq]
      exact (List.getElem?_eq_some_iff.1 hj).1
    rw [get!_at s j hl] at hj
    rw [← Option.some.inj hj]
    exact h j hl
  rintro (h1 | h1)
  · exact (key _ h1).1 rfl
  · exact (key _ h1).2 rfl
theorem bad_at {s : ByteArray} {i : Nat} (hi : i < s.size) (h : s.get! i = 47 ∨ s.get! i = 0) : 47 ∈ s.data.toList ∨ 0 ∈ s.data.toList := by
  have hm := List.mem_of_getElem? (get!_at s i hi)
  rcases h with h | h <;> rw [h] at hm
  · exact .inl hm
  · exact .inr hm
theorem wide (n : Nat) (h : n < 256) : ((n : Int)).toNat.toUInt8.toNat = n := by simp; omega
def itSet (w : World) (b : Nat) (s : ByteArray) (pos : Nat) : World := { w with heap := w.heap.setIfInBounds b (.stringIter s pos) }
theorem itSet_heap {w : World} {b : Nat} {o : Obj} (h : w.heap[b]? = some o) (s : ByteArray) (pos : Nat) : (itSet w b s pos).heap[b]? = some (.stringIter s pos) := by
  have hb : b < w.heap.size := (Array.getElem?_eq_some_iff.1 h).1
  simp [itSet, hb]
theorem itSet_below {B : Nat} {a w : World} (h : Below B a w) (b : Nat) (hb : B ≤ b) (s : ByteArray) (pos : Nat) : Below B a (itSet w b s pos) :=
  ⟨h.os, h.tape, h.output, by simpa [itSet] using h.size, fun k hk => by
    have : b ≠ k := by omega
    have e : (itSet w b s pos).heap[k]? = w.heap[k]? := by simp [itSet, this]
    rw [e]
    exact h.block k hk⟩
theorem run_next_at {P : Program} (w : World) (b : Nat) (s : ByteArray) (pos : Nat) (ty : TypeId) (hb : w.heap[b]? = some (.stringIter s pos)) (h : pos < s.size) :
    (Instr.next (.pointer (some ⟨b, 0, none⟩)) true ty).run P w = .ok (.tuple #[.bool true, .int .i64 pos, .int .i32 (Utf8.decode s pos).1]) (itSet w b s (pos + (Utf8.decode s pos).2)) := by
  simp only [Instr.next, getObj, setObj, Sem.run_bind, Sem.run, hb, Result.andThen, h, if_true]
  simp [goInt, itSet]
theorem run_next_done {P : Program} (w : World) (b : Nat) (s : ByteArray) (pos : Nat) (ty : TypeId) (hb : w.heap[b]? = some (.stringIter s pos)) (h : ¬ pos < s.size) :
    (Instr.next (.pointer (some ⟨b, 0, none⟩)) true ty).run P w = .ok (.tuple #[.bool false]) w := by
  simp [Instr.next, getObj, Sem.run, hb, h]
set_option maxHeartbeats 8000000 in
set_option maxRecDepth 1000000 in
theorem indexAny_short (s : ByteArray) (w : World) (h8 : s.size ≤ 8) :
    Calls Try.prog 75 #[.string s, .string ⟨#[47, 0]⟩] w fun e w' => ∃ r : Int, e = .returned (.int .i64 r) ∧ decide (0 ≤ r) = decide (47 ∈ s.data.toList ∨ 0 ∈ s.data.toList) ∧ Below w.heap.size w w' := by
  have h8z : decide ((8 : Int) < (s.size : Int)) = false := decide_eq_false (by omega)
  have BI : Hid (Below w.heap.size w (w.iter s 0)) := Lib.hid ((Below.refl _ _).alloc (Nat.le_refl _) _)
  have HI : Hid ((w.iter s 0).heap[w.heap.size]? = some (.stringIter s 0)) := Lib.hid (World.iter_heap w s 0)
  obtain ⟨b, hb⟩ : ∃ b, w.heap.size = b := ⟨_, rfl⟩
  rw [hb] at BI HI ⊢
  have HBb := Lib.hid hb
  go_enter Try.func75, Try.ntmps75
  go_wp2_with (go_at_call 78; refine (Any.strings_shouldUseASCIISet Try.lays226 _ _).mono ?_; rintro e w' ⟨rfl, hw⟩; rw [hw, h8z])
  clear hb
  go_loopg [9, 10] s.size (fun g _ _ wx => ∃ i : Nat, i + g = s.size ∧ Below b w wx ∧ wx.heap[b]? = some (.stringIter s i) ∧ NoBad s i)
  case atStart => exact ⟨0, by omega, BI.out, HI.out, fun j hj => absurd hj (by omega)⟩
  case round =>
    obtain ⟨i, hig, hB, hit, hno⟩ := hrel
    have HN := Lib.hid hno
    have HB := Lib.hid hB
    have HT := Lib.hid hit
    clear hno hB BI HI
    cases gk with
    | zero =>
      obtain rfl : i = s.size := by omega
      have hnx := fun ty => run_next_done (P := Try.prog) wr b s s.size ty hit (by omega)
      clear hit
      go_wp2
      go_ret
      exact ⟨_, rfl, by rw [decide_eq_false (noBad_all HN.out)]; rfl, HB.out⟩
    | succ g =>
      have hi : i < s.size := by omega
      have hgx : s.get! i = s[i]'hi := by simpa using get_at s i hi
      have hnx := fun ty => run_next_at (P := Try.prog) wr b s i ty hit hi
      clear hit
      obtain ⟨x, hx⟩ : ∃ x : UInt8, s[i]'hi = x := ⟨_, rfl⟩
      rw [hx] at hgx
      have HG := Lib.hid hgx
      clear hgx
      have HS : Hid (∀ k, Below b w (itSet wr b s k)) := Lib.hid fun k => itSet_below HB.out b (Nat.le_refl _) s k
      have HI : Hid (∀ k, (itSet wr b s k).heap[b]? = some (.stringIter s k)) := Lib.hid fun k => itSet_heap HT.out s k
      by_cases hx128 : x.toNat < 128
      · have hd := decode_ascii s i hi (by rw [hx]; exact hx128)
        rw [hx] at hd
        rw [hd] at hnx
        clear hd hx
        obtain ⟨W, hW⟩ : ∃ W, W = itSet wr b s (i + 1) := ⟨_, rfl⟩
        have HS1 := Lib.hid (HS.out (i + 1))
        have HI1 := Lib.hid (HI.out (i + 1))
        rw [← hW] at HS1 HI1
        simp only at hnx
        rw [← hW] at hnx
        clear hW HS HI
        by_cases hbad : x = 47 ∨ x = 0
        · have hge : (0 : Int) ≤ Lib.indexByte [47, 0] x := by rcases hbad with rfl | rfl <;> decide
          have HBD := Lib.hid hbad
          clear hbad
          have KA : Hid (∀ w, Calls Try.prog 77 #[.string ⟨#[47, 0]⟩, .int .i32 (x.toNat : Int)] w fun e w' => e = .returned (.int .i64 (Lib.indexByte [47, 0] x)) ∧ w' = w) := Lib.hid fun w => by
            have k := Any.strings_IndexRune_ascii Try.lays152 ⟨#[47, 0]⟩ (x.toNat : Int) w (by omega) (by omega)
            rw [show ((x.toNat : Int)).toNat.toUInt8 = x by simp] at k
            exact k
          go_wp2_with (go_at_call 77; refine (KA.out _).mono ?_; rintro e w' ⟨rfl, rfl⟩)
          go_ret
          exact ⟨_, rfl, by rw [decide_eq_true (bad_at hi (by rw [HG.out]; exact HBD.out)), decide_eq_true (by omega)], HS1.out⟩
        · have hlt : ¬ ((0 : Int) ≤ Lib.indexByte [47, 0] x) := by
            have e1 : (47 == x) = false := beq_eq_false_iff_ne.2 fun e => hbad (.inl e.symm)
            have e2 : (0 == x) = false := beq_eq_false_iff_ne.2 fun e => hbad (.inr e.symm)
            simp [Lib.indexByte, e1, e2]
          have HBD := Lib.hid hbad
          clear hbad
          have KA : Hid (∀ w, Calls Try.prog 77 #[.string ⟨#[47, 0]⟩, .int .i32 (x.toNat : Int)] w fun e w' => e = .returned (.int .i64 (Lib.indexByte [47, 0] x)) ∧ w' = w) := Lib.hid fun w => by
            have k := Any.strings_IndexRune_ascii Try.lays152 ⟨#[47, 0]⟩ (x.toNat : Int) w (by omega) (by omega)
            rw [show ((x.toNat : Int)).toNat.toUInt8 = x by simp] at k
            exact k
          go_wp2_with (go_at_call 77; refine (KA.out _).mono ?_; rintro e w' ⟨rfl, rfl⟩)
          go_roundg g
          case measure => omega
          case rel => exact ⟨i + 1, by omega, HS1.out, HI1.out, fun j hj => by
            rcases (show j < i ∨ j = i by omega) with h | rfl
            · exact HN.out j h
            · rw [HG.out]
              exact ⟨fun e => HBD.out (.inl e), fun e => HBD.out (.inr e)⟩⟩
      · have hhigh : 128 ≤ (s[i]'hi).toNat := by rw [hx]; omega
        have hdv := decode_valid s i hi hhigh
        have hdc := decode_covers s i hi hhigh
        have hdh := decode_high s i hi hhigh
        obtain ⟨c, wd, hcw⟩ : ∃ c wd, Utf8.decode s i = (c, wd) := ⟨_, _, rfl⟩
        rw [hcw] at hdv hdc hdh hnx
        simp only at hdv hdc hdh hnx
        have HD := Lib.hid hdc
        obtain ⟨W, hW⟩ : ∃ W, W = itSet wr b s (i + wd) := ⟨_, rfl⟩
        have HS1 := Lib.hid (HS.out (i + wd))
        have HI1 := Lib.hid (HI.out (i + wd))
        rw [← hW] at HS1 HI1 hnx
        clear hW HS HI hcw hhigh hx
        have KR : Hid (∀ w, Calls Try.prog 77 #[.string ⟨#[47, 0]⟩, .int .i32 (c : Int)] w fun e w' => e = .returned (.int .i64 (-1)) ∧ Below w.heap.size w w') := Lib.hid fun w => by
          by_cases h3 : c = 65533
          · subst h3
            exact indexRune_bad w
          · refine indexRune_high c w (by omega) ?_ (by omega)
            rcases hdv with h | h
            · exact h
            · exact absurd h h3
        have hw1 : 1 ≤ wd := hdh.2
        have hs1 : i + wd ≤ s.size := hdc.1
        clear hdv hdh hdc
        go_wp2_with (go_at_call 77; refine (KR.out _).mono ?_; rintro e w9 ⟨rfl, h9⟩)
        have HS9 := Lib.hid (HS1.out.trans (h9.mono (HBb.out ▸ HS1.out.size)))
        have HI9 : Hid (w9.heap[b]? = some (.stringIter s (i + wd))) := Lib.hid ((h9.block b (Array.getElem?_eq_some_iff.1 HI1.out).1).trans HI1.out)
        clear h9
        go_roundg (s.size - (i + wd))
        case measure => omega
        case rel => exact ⟨i + wd, by omega, HS9.out, HI9.out, fun j hj => by
          by_cases h : j < i
          · exact HN.out j h
          · have h1 := HD.out.2 j (by omega) hj
            refine ⟨fun e => ?_, fun e => ?_⟩ <;> rw [e] at h1 <;> exact absurd h1 (by decide)⟩
theorem containsAny_any (s : ByteArray) (w : World) (h12 : s.size ≤ 12) :
    Calls Try.prog 72 #[.string s, .string ⟨#[47, 0]⟩] w fun e w' => e = .returned (.bool (decide (47 ∈ s.data.toList ∨ 0 ∈ s.data.toList))) ∧ Below w.heap.size w w' := by
  have K : Hid (Calls Try.prog 75 #[.string s, .string ⟨#[47, 0]⟩] w fun e w' => ∃ r : Int, e = .returned (.int .i64 r) ∧ decide (0 ≤ r) = decide (47 ∈ s.data.toList ∨ 0 ∈ s.data.toList) ∧ Below w.heap.size w w') := Lib.hid (by
    by_cases h8 : s.size ≤ 8
    · exact indexAny_short s w h8
    · have h116 : (Try.prog.info? (Try.lays153_ren.t 116)).map (fun i => (i.zero, i.size)) = some (some (.agg (Array.replicate 256 (.bool false))), 256) := by kernel_rfl
      have z := zero_of_info h116
      refine (Any.strings_IndexAny_long Try.lays153 z.1 z.2 s ⟨#[47, 0]⟩ w (by decide) (by omega) (by omega) (by decide) (fun j b hj => ?_)).mono ?_
      · match j with
        | 0 => cases hj; decide
        | 1 => cases hj; decide
        | j + 2 => cases hj
      · rintro e w' ⟨rfl, rfl⟩
        refine ⟨_, rfl, containsAny_right s.data.toList, ((Below.refl _ _).alloc (Nat.le_refl _) _).alloc (by simp) _⟩)
  obtain ⟨b, hb⟩ : ∃ b, decide (47 ∈ s.data.toList ∨ 0 ∈ s.data.toList) = b := ⟨_, rfl⟩
  rw [hb] at K ⊢
  clear hb
  go_enter Try.func72, Try.ntmps72
  go_wp2_with (go_at_call 75; refine K.out.mono ?_; rintro e w1 ⟨r, rfl, hr, hb⟩)
  go_ret
  exact ⟨rfl, hb⟩
set_option maxHeartbeats 2000000 in
set_option maxRecDepth 100000 in
/-- Right, of any text -/
theorem right_any (s : ByteArray) (w : World) : Calls Try.prog 57 #[.string s] w fun e w' => e = .returned (.bool (rightL s.data.toList)) ∧ Below w.heap.size w w' := by
  have hsz := Lib.size_eq s
  by_cases h1 : 1 ≤ s.size
  · by_cases h12 : s.size ≤ 12
    · have i1 : (1 : Int) ≤ (s.size : Int) := by omega
      have i2 : (s.size : Int) ≤ 12 := by omega
      obtain ⟨b, hb⟩ : ∃ b, decide (47 ∈ s.data.toList ∨ 0 ∈ s.data.toList) = b := ⟨_, rfl⟩
      have K := Lib.hid (containsAny_any s w h12)
      rw [hb] at K
      have HB := Lib.hid hb
      clear hb
      have d1 : rightL s.data.toList = (!b && s.toList != [46] && s.toList != [46, 46]) := by
        rw [← HB.out, Lib.toList_data]
        unfold rightL
        rw [← hsz]
        by_cases c1 : (47 ∈ s.data.toList ∨ 0 ∈ s.data.toList)
        · rw [decide_eq_true c1, decide_eq_false]
          · rfl
          · rintro ⟨_, _, c2, c3, _⟩
            rcases c1 with c | c
            · exact c2 c
            · exact c3 c
        · rw [decide_eq_false c1]
          have c2 : ¬ 47 ∈ s.data.toList := fun c => c1 (.inl c)
          have c3 : ¬ 0 ∈ s.data.toList := fun c => c1 (.inr c)
          simp only [h1, h12, c2, c3, true_and, not_false_eq_true, Bool.not_false, Bool.true_and]
          rw [Bool.eq_iff_iff]
          simp
      rw [d1]
      clear d1 hsz h1 h12
      go_enter Try.func57, Try.ntmps57
      go_wp2_with (go_at_call 72; refine K.out.mono ?_; rintro e w1 ⟨rfl, hb⟩)
      all_goals
        go_ret
        refine ⟨?_, hb⟩
        clear K HB hb
        simp_all
        try rfl
    · have i1 : (1 : Int) ≤ (s.size : Int) := by omega
      have i2 : ¬ (s.size : Int) ≤ 12 := by omega
      have d1 : rightL s.data.toList = false := decide_eq_false fun h => by have := h.2.1; omega
      rw [d1]
      clear d1 hsz
      go_enter Try.func57, Try.ntmps57
      go_wp2
      go_ret
      exact ⟨rfl, Below.refl _ _⟩
  · have i1 : ¬ (1 : Int) ≤ (s.size : Int) := by omega
    have d1 : rightL s.data.toList = false := decide_eq_false fun h => by have := h.1; omega
    rw [d1]
    clear d1 hsz
    go_enter Try.func57, Try.ntmps57
    go_wp2
    go_ret
    exact ⟨rfl, Below.refl _ _⟩
theorem rightL_all {s : ByteArray} (h1 : 1 ≤ s.size) (h2 : s.size ≤ 12) (h3 : s.toList ≠ [46]) (h4 : s.toList ≠ [46, 46]) : rightL s.data.toList = !decide (47 ∈ s.data.toList ∨ 0 ∈ s.data.toList) := by
  rw [Lib.toList_data] at h3 h4
  have hsz := Lib.size_eq s
  unfold rightL
  rw [← hsz]
  by_cases c1 : (47 ∈ s.data.toList ∨ 0 ∈ s.data.toList)
  · rw [decide_eq_true c1, decide_eq_false]
    · rfl
    · rintro ⟨_, _, c2, c3, _⟩
      rcases c1 with c | c
      · exact c2 c
      · exact c3 c
  · rw [decide_eq_false c1]
    exact decide_eq_true ⟨h1, h2, fun c => c1 (.inl c), fun c => c1 (.inr c), h3, h4⟩
set_option maxHeartbeats 2000000 in
set_option maxRecDepth 100000 in
/-- the document's -/
theorem refRight_any (s : ByteArray) (w : World) : Calls Try.prog 62 #[.string s] w fun e w' => e = .returned (.bool (rightL s.data.toList)) ∧ w = w' := by
  have hsz := Lib.size_eq s
  by_cases h1 : 1 ≤ s.size
  · by_cases h12 : s.size ≤ 12
    · have i1 : ¬ (s.size : Int) < 1 := by omega
      have i2 : (s.size : Int) ≤ 12 := by omega
      by_cases h3 : s.toList = [46]
      · have d1 : rightL s.data.toList = false := decide_eq_false fun h => h.2.2.2.2.1 (by rw [← Lib.toList_data]; exact h3)
        rw [d1]
        clear d1 hsz
        go_enter Try.func62, Try.ntmps62
        go_wp2
        go_ret
        exact ⟨rfl, rfl⟩
      · by_cases h4 : s.toList = [46, 46]
        · have d1 : rightL s.data.toList = false := decide_eq_false fun h => h.2.2.2.2.2 (by rw [← Lib.toList_data]; exact h4)
          rw [d1]
          clear d1 hsz
          go_enter Try.func62, Try.ntmps62
          go_wp2
          go_ret
          exact ⟨rfl, rfl⟩
        · have HR := Lib.hid (rightL_all h1 h12 h3 h4)
          have g3 : (s.toList == [46]) = false := by simpa using h3
          have g4 : (s.toList == [46, 46]) = false := by simpa using h4
          clear h3 h4 hsz
          obtain ⟨R, hR⟩ : ∃ R, rightL s.data.toList = R := ⟨_, rfl⟩
          rw [hR] at HR ⊢
          clear hR
          go_enter Try.func62, Try.ntmps62
          go_wp2
          go_loop [3] (fun i => ∃ k : Nat, k ≤ s.size ∧ i = .int .i64 k ∧ Hid (NoBad s k)) (fun i => s.size - (intOf i).toNat)
          case atStart => exact ⟨0, by omega, rfl, Lib.hid fun j hj => absurd hj (by omega)⟩
          case round =>
            obtain ⟨k, hk, rfl, hno⟩ := hrel
            rcases Nat.lt_or_ge k s.size with hlt | hge
            · have i3 : (k : Int) < (s.size : Int) := by omega
              have hgx : s.get! k = s[k]'hlt := by simpa using get_at s k hlt
              obtain ⟨x, hx⟩ : ∃ x : UInt8, s[k]'hlt = x := ⟨_, rfl⟩
              rw [hx] at hgx
              have HG := Lib.hid hgx
              clear hgx
              by_cases hb : x = 47 ∨ x = 0
              · have hbad := bad_at hlt (by rw [HG.out]; exact hb)
                have hv := HR.out
                rw [decide_eq_true hbad] at hv
                subst hv
                clear hbad HR
                rcases hb with rfl | rfl
                · go_wp2
                  go_ret
                  exact ⟨rfl, rfl⟩
                · go_wp2
                  go_ret
                  exact ⟨rfl, rfl⟩
              · have e1 : ((x.toNat : Int) == 47) = false := beq_eq_false_iff_ne.2 fun e => hb (.inl (UInt8.toNat_inj.1 (by show x.toNat = 47; omega)))
                have e2 : ((x.toNat : Int) == 0) = false := beq_eq_false_iff_ne.2 fun e => hb (.inr (UInt8.toNat_inj.1 (by show x.toNat = 0; omega)))
                have HBD := Lib.hid hb
                clear hb
                go_wp2
                go_round
                case rel => exact ⟨k + 1, by omega, by go_num, Lib.hid fun j hj => by
                  rcases (show j < k ∨ j = k by omega) with h | rfl
                  · exact hno.out j h
                  · rw [HG.out]
                    exact ⟨fun e => HBD.out (.inl e), fun e => HBD.out (.inr e)⟩⟩
                case measure => simp [intOf]; omega
            · obtain rfl : k = s.size := by omega
              have hv := HR.out
              rw [decide_eq_false (noBad_all hno.out)] at hv
              subst hv
              clear HR hno hge
              go_wp2
              go_ret
              exact ⟨rfl, rfl⟩
    · have i1 : ¬ (s.size : Int) < 1 := by omega
      have i2 : (12 : Int) < (s.size : Int) := by omega
      have d1 : rightL s.data.toList = false := decide_eq_false fun h => by have := h.2.1; omega
      rw [d1]
      clear d1 hsz
      go_enter Try.func62, Try.ntmps62
      go_wp2
      go_ret
      exact ⟨rfl, rfl⟩
  · have i1 : (s.size : Int) < 1 := by omega
    have d1 : rightL s.data.toList = false := decide_eq_false fun h => by have := h.1; omega
    rw [d1]
    clear d1 hsz
    go_enter Try.func62, Try.ntmps62
    go_wp2
    go_ret
    exact ⟨rfl, rfl⟩
end Go.Proofs.Ytkpojlnfagonbaa


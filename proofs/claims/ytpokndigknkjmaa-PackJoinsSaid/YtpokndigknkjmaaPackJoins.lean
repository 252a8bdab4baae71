/- The walk of PackJoins: it answers true, and changes nothing that was there. No condition. -/
import Derived.Test.YtpokndigknkjmaaPackNums
import Derived.Deep.QuietTactic
import Derived.BigQuiet
namespace Go.Proofs.Ytpokndigknkjmaa
open Go.RowKit

theorem sliceTys : OneCell Try.prog 35 24 (.slice none 0 0) 24 := OneCell.mk' Try.underlying35 (by kernel_rfl) (by decide)

/-- bytes that lie in blocks of which S speaks -/
def BytesS (w : World) (S : Nat → Prop) (v : Value) (l : List UInt8) : Prop :=
  ∃ A c, v = .slice A l.length c ∧ l.length ≤ c ∧ c ≤ maxLen ∧ ∀ (j : Nat) (u : Value), (bv l)[j]? = some u → ∃ a, A = some a ∧ S a.block ∧ w.cell? (a.add j) = some u
def EachS (w : World) (S : Nat → Prop) (xs : List Value) (L : List (List UInt8)) : Prop :=
  xs.length = L.length ∧ ∀ (i : Nat) (v : Value), xs[i]? = some v → ∃ l, L[i]? = some l ∧ BytesS w S v l
theorem BytesS.keep {w w' : World} {S S' : Nat → Prop} {v : Value} {l : List UInt8} (h : BytesS w S v l) (hk : ∀ k, S k → S' k ∧ w'.heap[k]? = w.heap[k]?) : BytesS w' S' v l := by
  obtain ⟨A, c, h1, h2, h3, h4⟩ := h
  refine ⟨A, c, h1, h2, h3, fun j u hu => ?_⟩
  obtain ⟨a, e, hs, hc⟩ := h4 j u hu
  exact ⟨a, e, (hk _ hs).1, (World.cell?_of_block (w := w) (w' := w') (a := a.add j) (by rw [add_block]; exact (hk _ hs).2)).trans hc⟩
theorem EachS.keep {w w' : World} {S S' : Nat → Prop} {xs : List Value} {L : List (List UInt8)} (h : EachS w S xs L) (hk : ∀ k, S k → S' k ∧ w'.heap[k]? = w.heap[k]?) : EachS w' S' xs L :=
  ⟨h.1, fun i v hv => by obtain ⟨l, hl, hb⟩ := h.2 i v hv; exact ⟨l, hl, hb.keep hk⟩⟩
theorem EachS.snoc {w : World} {S : Nat → Prop} {xs : List Value} {L : List (List UInt8)} {v : Value} {l : List UInt8} (h : EachS w S xs L) (hv : BytesS w S v l) : EachS w S (xs ++ [v]) (L ++ [l]) := by
  refine ⟨by simp [h.1], fun i u hu => ?_⟩
  rcases Nat.lt_or_ge i xs.length with hi | hi
  · rw [List.getElem?_append_left hi] at hu
    obtain ⟨m, hm, hb⟩ := h.2 i u hu
    exact ⟨m, by rw [List.getElem?_append_left (by rw [← h.1]; exact hi)]; exact hm, hb⟩
  · rw [List.getElem?_append_right hi] at hu
    have hi0 : i - xs.length = 0 := by
      have := get_lt hu
      simp at this
      omega
    rw [hi0] at hu
    simp only [List.getElem?_cons_zero, Option.some.injEq] at hu
    subst hu
    exact ⟨l, by rw [List.getElem?_append_right (by rw [← h.1]; exact hi), ← h.1, hi0]; rfl, hv⟩
theorem BytesS.bytes {w : World} {S : Nat → Prop} {B : Nat} {v : Value} {l : List UInt8} (h : BytesS w S v l) (hS : ∀ k, S k → k < B) : Bytes w B v l := by
  obtain ⟨A, c, h1, h2, h3, h4⟩ := h
  refine ⟨A, c, h1, h2, h3, fun j u hu => ?_⟩
  obtain ⟨a, e, hs, hc⟩ := h4 j u hu
  exact ⟨a, e, hS _ hs, hc⟩
theorem EachS.each {w : World} {S : Nat → Prop} {B : Nat} {xs : List Value} {L : List (List UInt8)} (h : EachS w S xs L) (hS : ∀ k, S k → k < B) : Each w B xs L :=
  ⟨h.1, fun i v hv => by obtain ⟨l, hl, hb⟩ := h.2 i v hv; exact ⟨l, hl, hb.bytes hS⟩⟩
theorem Own.bytesS {e : TypeId} {w : World} {base : Nat} {v : Value} {l : List UInt8} (h : Own e w base v l) (hl : l.length ≤ maxLen) : BytesS w (fun k => v.ownBlock = some k) v l := by
  obtain ⟨A, c, h1, h2, h3, h4⟩ := h.bytes hl
  refine ⟨A, c, h1, h2, h3, fun j u hu => ?_⟩
  obtain ⟨a, e, _, hc⟩ := h4 j u hu
  refine ⟨a, e, ?_, hc⟩
  subst h1 e
  rfl

/-- what one round does to the slices that the call holds -/
theorem each_step {w wr w7 w8 : World} {A' A7 A8 : Option Addr} {k c' c7 c8 : Nat} {xs : List Value} {L : List (List UInt8)} {l : List UInt8}
    (hl : L[k]? = some l) (hln : l.length ≤ 1000) (hbr : Below w.heap.size w wr) (hO : wr.ownsRow w.heap.size 24 1 (.slice A' k c') k xs)
    (hE : EachS wr (fun b => w.heap.size ≤ b ∧ b < wr.heap.size ∧ (.slice A' k c' : Value).ownBlock ≠ some b) xs (L.take k))
    (hb7 : Below wr.heap.size wr w7) (O7 : Own 5 w7 wr.heap.size (.slice A7 l.length c7) l)
    (g8 : (w7.alloc (.cells #[.slice A7 l.length c7] 24)).grownBy w8 (.slice A' k c' : Value).ownBlock)
    (h8 : (.slice A8 (k + 1) c8 : Value).ownBlock = (.slice A' k c' : Value).ownBlock ∨ (.slice A8 (k + 1) c8 : Value).ownBlock = some (w7.alloc (.cells #[.slice A7 l.length c7] 24)).heap.size) :
    EachS w8 (fun b => w.heap.size ≤ b ∧ b < w8.heap.size ∧ (.slice A8 (k + 1) c8 : Value).ownBlock ≠ some b) (xs ++ [.slice A7 l.length c7]) (L.take (k + 1)) ∧ Below w.heap.size w w8 := by
  have hz1 := hbr.size
  have hz2 := hb7.size
  have hz3 := g8.size
  have hsz : (w7.alloc (.cells #[.slice A7 l.length c7] 24)).heap.size = w7.heap.size + 1 := by simp
  rw [hsz] at hz3 h8
  have hin := hO.lt
  have h7 := O7.lt
  have hal : ∀ b, b < w7.heap.size → (w7.alloc (.cells #[.slice A7 l.length c7] 24)).heap[b]? = w7.heap[b]? := fun b hb => Below.heap_alloc w7 _ b hb
  refine ⟨?_, ?_⟩
  · rw [take_snoc L hl]
    refine EachS.snoc (hE.keep ?_) ((O7.bytesS (by simp only [maxLen]; omega)).keep ?_)
    · rintro b ⟨b1, b2, b3⟩
      refine ⟨⟨b1, by omega, ?_⟩, ?_⟩
      · rcases h8 with h8 | h8
        · rw [h8]; exact b3
        · rw [h8]; intro e; injection e with e; omega
      · rw [g8.block b (by omega) (fun e => b3 e.symm), hal b (by omega), hb7.block b b2]
    · intro b hb
      obtain ⟨q1, q2⟩ := h7 b hb
      have hne : (.slice A' k c' : Value).ownBlock ≠ some b := fun e => by
        have := hin b e
        omega
      refine ⟨⟨by omega, by omega, ?_⟩, ?_⟩
      · rcases h8 with h8 | h8
        · rw [h8]; exact hne
        · rw [h8]; intro e; injection e with e; omega
      · rw [g8.block b (by omega) (fun e => hne e.symm), hal b q2]
  · have hb8 : Below w.heap.size w (w7.alloc (.cells #[.slice A7 l.length c7] 24)) := (hbr.trans (hb7.mono hz1)).alloc (by omega) _
    exact hb8.grown g8 (by rw [hsz]; omega) fun b hb => (hin b hb).1

theorem str_cat (x y : List UInt8) : (⟨x.toArray⟩ : ByteArray) ++ ⟨y.toArray⟩ = ⟨(x ++ y).toArray⟩ := by
  apply ByteArray.ext
  simp

set_option maxHeartbeats 3200000 in
theorem joins_main (v : Value) (L : List (List UInt8)) (w : World) (hp : Parts w w.heap.size v L) (hL : L.length ≤ 100) :
    Calls Try.prog 5 #[v] w fun e w' => e = .returned (.bool true) ∧ Below w.heap.size w w' := by
  obtain ⟨A, c, vs, hv, hr, he, hlen⟩ := id hp
  subst hv
  have hvl : vs.length ≤ 100 := by rw [he.1]; exact hL
  have HF : Hid (L.take vs.length = L) := Lib.hid (by rw [he.1]; exact List.take_length)
  clear hp hlen
  have d1 : decide ((100 : Int) < (vs.length : Int)) = false := by simp; omega
  go_enter Try.func5, Try.ntmps5
  go_wp2_with fail
  refine (speaks_any _).mono ?_
  rintro e w1 ⟨rfl, hb1⟩
  go_wp2
  clear d1
  have hb2 := hb1.alloc hb1.size (.cells #[] 24)
  have O2 : World.ownsRow (w1.alloc (.cells #[] 24)) w.heap.size 24 1 (.slice (some ⟨w1.heap.size, 0, none⟩) 0 0) 0 [] := World.ownsRow_made w1 #[] 0 hb1.size (by simp [maxLen]) rfl
  go_loopw [3, 4, 18] (fun u z i wr => ∃ k : Nat, k ≤ vs.length ∧ i = .int .i64 k ∧ (∃ Z : ByteArray, z = .string Z ∧ Z.size ≤ 1000 * k ∧ Hid (Z = ⟨(L.take k).flatten.toArray⟩)) ∧ ∃ A' c' xs, u = .slice A' k c' ∧ wr.ownsRow w.heap.size 24 1 (.slice A' k c') k xs ∧
      Hid (EachS wr (fun b => w.heap.size ≤ b ∧ b < wr.heap.size ∧ (.slice A' k c' : Value).ownBlock ≠ some b) xs (L.take k)) ∧ Below w.heap.size w wr ∧ Hid (∀ j, j < k → ∀ l, L[j]? = some l → l.length ≤ 1000)) (fun _ _ i _ => vs.length - (intOf i).toNat)
  case atStart => exact ⟨0, Nat.zero_le _, rfl, ⟨_, rfl, by decide, rfl⟩, _, _, [], rfl, O2, ⟨rfl, fun i v hv => by simp at hv⟩, hb2, fun j hj => absurd hj (by omega)⟩
  case round =>
    rename_i wr
    obtain ⟨k, hk, rfl, ⟨Z, rfl, hZ1, hZ⟩, A', c', xs, rfl, hO, hE, hbr, hsm⟩ := hrel
    clear O2 hb2 hb1
    by_cases hlt2 : k < vs.length
    · obtain ⟨a, rfl, hab, hcell⟩ := hr.at_ hlt2
      obtain ⟨l, hl, Ai, ci, hv, hlc, hcm, hrow⟩ := he.at_ hlt2
      have hby : Bytes wr w.heap.size (.slice Ai l.length ci) l := Bytes.below ⟨Ai, ci, rfl, hlc, hcm, hrow⟩ hbr
      have hc2 := (hbr.cell (p := a.add k) (by rw [add_block]; exact hab)).trans hcell
      rw [hv] at hc2
      have HL := Lib.hid hl
      have HY := Lib.hid hby
      have HY0 : Hid (Bytes w w.heap.size (.slice Ai l.length ci) l) := Lib.hid ⟨Ai, ci, rfl, hlc, hcm, hrow⟩
      clear hv hl hcell hby hrow
      unfold maxLen at hcm
      by_cases h1 : 1000 < l.length
      · have d1 : decide ((1000 : Int) < (l.length : Int)) = true := by simp; omega
        go_wp2
        go_ret
        exact ⟨rfl, hbr⟩
      · have d1 : decide ((1000 : Int) < (l.length : Int)) = false := by simp; omega
        have hb2 := (Below.refl wr.heap.size wr).alloc (Nat.le_refl _) (.cells #[] 5)
        have O2 := Own.made (e := 5) (base := wr.heap.size) (w := wr) #[] 0 (Nat.le_refl _) (by simp) rfl wr.heap.size rfl
        have D2 := Lib.hid (HY.out.keep (w' := wr.alloc (.cells #[] 5)) fun p hp => hb2.cell (Nat.lt_of_lt_of_le hp hbr.size))
        have hz2 := hb2.size
        go_wp2_with (first
          | (at_builtin; refine wpl_append_bytes byteTys rfl (.tmp 26) (.tmp 27) rfl rfl O2 _ _ _ rfl D2.out (by simp; omega) hz2 l.length (by simp) ?_; intro A7 c7 w7 O7 g7 h7; have hb7 := hb2.trans g7; have hO7 := (World.ownsRow.kept hO (only_of_below hb7 none) (by cases (Value.slice A' k c').ownBlock <;> simp)).alloc (.cells #[.slice A7 l.length c7] 24); have R7 := Row.new (B := w7.heap.size + 1) w7 #[.slice A7 l.length c7] 24 (0, 0) w7.heap.size rfl (by omega); have hz7 : w.heap.size ≤ (w7.alloc (.cells #[.slice A7 l.length c7] 24)).heap.size := Nat.le_trans hbr.size (Nat.le_trans hb7.size (by simp)))
          | (at_builtin; refine wpl_append_vals sliceTys rfl (.tmp 25) (.tmp 29) rfl k rfl hO7 _ _ _ _ 1 rfl rfl R7 (by intro u hu; simp at hu; subst hu; rfl) (by omega) (by simp only [maxLen]; omega) hz7 (k + 1) rfl ?_; intro A8 c8 w8 O8 g8 h8; rw [List.nil_append] at O7; have E8 := each_step HL.out (by omega) hbr hO hE.out hb7 O7 g8 h8; have S8 := str_of (HY0.out.below E8.2); have HE8 := Lib.hid E8.1; have hb8 := E8.2; clear E8))
        clear S8
        go_roundw
        case rel =>
          refine ⟨k + 1, by omega, by go_num, ⟨_, rfl, ?_, ?_⟩, A8, c8, _, rfl, O8, HE8, hb8, ?_⟩
          · rw [ByteArray.size_append]
            have : (⟨l.toArray⟩ : ByteArray).size = l.length := by simp [ByteArray.size]
            omega
          · show _ = _
            rw [hZ.out, str_cat, take_snoc L HL.out, List.flatten_append]
            simp
          · intro j hj l' hl'
            rcases Nat.lt_or_ge j k with hjk | hjk
            · exact hsm.out j hjk l' hl'
            · obtain rfl : j = k := by omega
              rw [HL.out] at hl'
              cases hl'
              omega
        case measure => simp [intOf]; omega
    · obtain rfl : k = vs.length := by omega
      obtain ⟨W, hW⟩ : ∃ W, W = wr := ⟨_, rfl⟩
      subst hW
      rw [HF.out] at hZ hE
      have hxs : xs.length = vs.length := by rw [hE.out.1, ← he.1]
      have hrow := ownsRow_row hO
      have hP : Parts W W.heap.size (.slice A' vs.length c') L := ⟨A', c', xs, by rw [hxs], hrow, hE.out.each fun b hb => hb.2.1, by rw [hxs]; simp only [maxLen]; omega⟩
      have HP := Lib.hid hP
      have HROW := Lib.hid hrow
      have HXS := Lib.hid hxs
      have hfl : L.flatten.length ≤ 100000 := by
        have h1 := congrArg ByteArray.size hZ.out
        have h2 : (⟨L.flatten.toArray⟩ : ByteArray).size = L.flatten.length := by simp only [ByteArray.size, List.size_toArray]
        rw [h2] at h1
        omega
      have HFL := Lib.hid hfl
      clear hP hrow hxs hfl hO
      go_wp2_with fail
      ((with_reducible refine (join_any _ _ _ _ (Nat.le_refl _) HP.out (by have := HFL.out; omega)).mono ?_); rintro e w5 ⟨g, c5, rfl, hg, O5, hb5⟩)
      have S5 := str_of (O5.bytes (by have := HFL.out; simp only [maxLen]; omega))
      rw [← hZ.out] at S5
      obtain ⟨N, hN⟩ : ∃ N, L.flatten.length = N := ⟨_, rfl⟩
      rw [hN] at O5 S5 HFL ⊢
      have HN := Lib.hid hN
      clear hN
      go_wp2
      clear S5
      go_loopw [44] (fun i wl => ∃ k : Nat, k ≤ N ∧ i = .int .i64 k ∧ ∃ l', Own 5 wl W.heap.size (.slice (some ⟨g, 0, none⟩) N c5) l' ∧ l'.length = N ∧ Below W.heap.size W wl) (fun i _ => N - (intOf i).toNat)
      case atStart => exact ⟨0, Nat.zero_le _, rfl, _, O5, HN.out, hb5⟩
      case round =>
        obtain ⟨k, hk, rfl, l', hO, hl', hbl⟩ := hrel
        clear O5 hb5
        have HL' := Lib.hid hl'
        clear hl'
        have hN64 := HFL.out
        by_cases hltN : k < N
        · have cc := hO.cell (List.getElem?_eq_getElem (by rw [HL'.out]; exact hltN))
          have cf := hO.free k
          go_wp2
          clear cc cf
          go_roundw
          case rel => exact ⟨k + 1, by omega, by go_num, _, hO.set k 238, by rw [List.length_set]; exact HL'.out, hbl.setCell hg _⟩
          case measure => simp [intOf]; omega
        · obtain rfl : k = N := by omega
          clear hO HL'
          go_wp2
          go_loopw [53] (fun i wl => ∃ k : Nat, k ≤ vs.length ∧ i = .int .i64 k ∧ Below W.heap.size W wl) (fun i _ => vs.length - (intOf i).toNat)
          case atStart => exact ⟨0, Nat.zero_le _, rfl, hbl⟩
          case round =>
            clear hbl
            obtain ⟨k, hk, rfl, hbl⟩ := hrel
            have hbw := hbr.trans (hbl.mono hbr.size)
            by_cases hlt3 : k < vs.length
            · obtain ⟨a, rfl, hab, hcell⟩ := hr.at_ hlt3
              obtain ⟨l, hl, Ai, ci, hv, hlc, hcm, hrow⟩ := he.at_ hlt3
              have hby : Bytes w w.heap.size (.slice Ai l.length ci) l := ⟨Ai, ci, rfl, hlc, hcm, hrow⟩
              have hc2 := (hbw.cell (p := a.add k) (by rw [add_block]; exact hab)).trans hcell
              rw [hv] at hc2
              have hkx : k < xs.length := by rw [HXS.out]; exact hlt3
              obtain ⟨a3, rfl, hab3, hcell3⟩ := HROW.out.at_ hkx
              obtain ⟨l3, hl3, hb3⟩ := (hE.out.each (B := W.heap.size) fun b hb => hb.2.1).at_ hkx
              obtain rfl : l3 = l := by rw [hl] at hl3; exact (Option.some.inj hl3).symm
              obtain ⟨Ax, cx, hx, _, _, _⟩ := id hb3
              have hc3 := (hbl.cell (p := a3.add k) (by rw [add_block]; exact hab3)).trans hcell3
              rw [hx] at hc3 hb3
              have S1 := fun m => str_of (Bytes.keep (w' := World.drewN _ m) (hby.below hbw) fun p _ => rfl)
              have S2 := fun m => str_of (Bytes.keep (w' := World.drewN _ m) (hb3.below hbl) fun p _ => rfl)
              have HX := Lib.hid hx
              clear hv hl hl3 hcell hcell3 hrow hx
              unfold maxLen at hcm
              go_wp2
              go_quiet (fail)
              clear S1 S2
              have hbq : Below W.heap.size W (wr.drewN nq) := ⟨hbl.os, hbl.tape, hbl.output, hbl.size, hbl.block⟩
              go_wp2
              go_roundw
              case rel => exact ⟨k + 1, by omega, by go_num, hbq⟩
              case measure => simp [intOf]; omega
            · obtain rfl : k = vs.length := by omega
              go_wp2_with fail
              ((with_reducible refine (join_any _ [] _ 0 (Nat.zero_le _) (Parts.nil 0) (by simp)).mono ?_); rintro e w8 ⟨g8, c8, rfl, hg8, O8, hb8⟩)
              have hbw8 := hbw.trans (hb8.mono hbw.size)
              clear O8 hb8 hbw
              go_wp2
              go_ret
              exact ⟨rfl, hbw8⟩

set_option maxHeartbeats 1000000 in
theorem packJoins_any (v : Value) (w : World) (h : ∃ L, Parts w w.heap.size v L) :
    Calls Try.prog 5 #[v] w fun e w' => e = .returned (.bool true) ∧ Below w.heap.size w w' := by
  obtain ⟨L, hp⟩ := h
  by_cases hL : L.length ≤ 100
  · exact joins_main v L w hp hL
  · obtain ⟨A, c, vs, hv, hr, he, hlen⟩ := hp
    subst hv
    have hvl : 100 < vs.length := by rw [he.1]; omega
    clear hr he hlen
    have d1 : decide ((100 : Int) < (vs.length : Int)) = true := by simp; omega
    go_enter Try.func5, Try.ntmps5
    go_wp2_with fail
    refine (speaks_any _).mono ?_
    rintro e w1 ⟨rfl, hb1⟩
    go_wp2
    go_ret
    exact ⟨rfl, hb1⟩
end Go.Proofs.Ytpokndigknkjmaa

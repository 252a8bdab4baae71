/- The walk of FrameWrites: it answers true, and changes nothing that was there. Condition: the table holds its sixteen numbers. -/
import Derived.Test.YtnclefdlmbkjmaaDoorTwo
import Derived.Test.YtnclefdlmbkjmaaDoorEachS
import Derived.Test.YtnclefdlmbkjmaaDoorFrameTurn
import Derived.Deep.QuietTactic
import Derived.BigQuiet
namespace Go.Proofs.YtnclefdlmbkjmaaDoor
open Go.RowKit
/-- the blocks that the call's lists have: none is another one's -/
def Apart (u z : Value) : Prop := ∀ b, u.ownBlock = some b → z.ownBlock ≠ some b
/-- what one round does to the slices that the call holds -/
theorem in_step {w wr w7 w8 w9 : World} {A' A7 A8 Z Z9 : Option Addr} {k c' c7 c8 n n9 cz c9 : Nat} {xs ys : List Value} {L : List (List UInt8)} {l : List UInt8}
    (hl : L[k]? = some l) (hln : l.length ≤ 300) (hbr : Below w.heap.size w wr) (hO : wr.ownsRow w.heap.size 24 1 (.slice A' k c') k xs) (hZ : wr.ownsRow w.heap.size 5 1 (.slice Z n cz) n ys)
    (hA : Apart (.slice A' k c') (.slice Z n cz))
    (hE : EachS wr (fun b => w.heap.size ≤ b ∧ b < wr.heap.size ∧ (.slice A' k c' : Value).ownBlock ≠ some b ∧ (.slice Z n cz : Value).ownBlock ≠ some b) xs (L.take k))
    (hb7 : Below wr.heap.size wr w7) (O7 : Own 5 w7 wr.heap.size (.slice A7 l.length c7) l)
    (g8 : (w7.alloc (.cells #[.slice A7 l.length c7] 24)).grownBy w8 (.slice A' k c' : Value).ownBlock)
    (h8 : (.slice A8 (k + 1) c8 : Value).ownBlock = (.slice A' k c' : Value).ownBlock ∨ (.slice A8 (k + 1) c8 : Value).ownBlock = some (w7.alloc (.cells #[.slice A7 l.length c7] 24)).heap.size)
    (O8 : w8.ownsRow w.heap.size 24 1 (.slice A8 (k + 1) c8) (k + 1) (xs ++ [.slice A7 l.length c7]))
    (g9 : w8.grownBy w9 (.slice Z n cz : Value).ownBlock)
    (h9 : (.slice Z9 n9 c9 : Value).ownBlock = (.slice Z n cz : Value).ownBlock ∨ (.slice Z9 n9 c9 : Value).ownBlock = some w8.heap.size) :
    EachS w9 (fun b => w.heap.size ≤ b ∧ b < w9.heap.size ∧ (.slice A8 (k + 1) c8 : Value).ownBlock ≠ some b ∧ (.slice Z9 n9 c9 : Value).ownBlock ≠ some b) (xs ++ [.slice A7 l.length c7]) (L.take (k + 1)) ∧
      w9.ownsRow w.heap.size 24 1 (.slice A8 (k + 1) c8) (k + 1) (xs ++ [.slice A7 l.length c7]) ∧ Apart (.slice A8 (k + 1) c8) (.slice Z9 n9 c9) ∧ Below w.heap.size w w9 := by
  have hz1 := hbr.size
  have hz2 := hb7.size
  have hz3 := g8.size
  have hz4 := g9.size
  have hsz : (w7.alloc (.cells #[.slice A7 l.length c7] 24)).heap.size = w7.heap.size + 1 := by simp
  rw [hsz] at hz3 h8
  have hin := hO.lt
  have hzn := hZ.lt
  have h7 := O7.lt
  have hal : ∀ b, b < w7.heap.size → (w7.alloc (.cells #[.slice A7 l.length c7] 24)).heap[b]? = w7.heap[b]? := fun b hb => Below.heap_alloc w7 _ b hb
  have hA8 : Apart (.slice A8 (k + 1) c8) (.slice Z n cz) := by
    intro b hb hc
    rcases h8 with h8 | h8
    · exact hA b (h8 ▸ hb) hc
    · have := hzn b hc
      rw [h8] at hb
      injection hb with e
      omega
  have hA9 : Apart (.slice A8 (k + 1) c8) (.slice Z9 n9 c9) := by
    intro b hb hc
    rcases h9 with h9 | h9
    · exact hA8 b hb (h9 ▸ hc)
    · have := O8.lt b hb
      rw [h9] at hc
      injection hc with e
      omega
  have hsep : ∀ b, b < w8.heap.size → (.slice Z n cz : Value).ownBlock ≠ some b → (.slice Z9 n9 c9 : Value).ownBlock ≠ some b := by
    intro b hb hne hc
    rcases h9 with h9 | h9
    · exact hne (h9 ▸ hc)
    · rw [h9] at hc
      injection hc with e
      omega
  refine ⟨?_, ?_, hA9, ?_⟩
  · rw [take_snoc L hl]
    refine EachS.snoc (hE.keep ?_) ((O7.bytesS (by simp only [maxLen]; omega)).keep ?_)
    · rintro b ⟨b1, b2, b3, b4⟩
      refine ⟨⟨b1, by omega, ?_, hsep b (by omega) b4⟩, ?_⟩
      · rcases h8 with h8 | h8
        · rw [h8]; exact b3
        · rw [h8]; intro e; injection e with e; omega
      · rw [g9.block b (by omega) (fun e => b4 e.symm), g8.block b (by omega) (fun e => b3 e.symm), hal b (by omega), hb7.block b b2]
    · intro b hb
      obtain ⟨q1, q2⟩ := h7 b hb
      have hne : (.slice A' k c' : Value).ownBlock ≠ some b := fun e => by
        have := hin b e
        omega
      have hnz : (.slice Z n cz : Value).ownBlock ≠ some b := fun e => by
        have := hzn b e
        omega
      refine ⟨⟨by omega, by omega, ?_, hsep b (by omega) hnz⟩, ?_⟩
      · rcases h8 with h8 | h8
        · rw [h8]; exact hne
        · rw [h8]; intro e; injection e with e; omega
      · rw [g9.block b (by omega) (fun e => hnz e.symm), g8.block b (by omega) (fun e => hne e.symm), hal b q2]
  · refine World.ownsRow.kept O8 g9 ?_
    cases hb : (Value.slice A8 (k + 1) c8).ownBlock with
    | none => exact .inl rfl
    | some b => exact .inr (fun e => hA8 b hb e.symm)
  · have hb8 : Below w.heap.size w (w7.alloc (.cells #[.slice A7 l.length c7] 24)) := (hbr.trans (hb7.mono hz1)).alloc (by omega) _
    have hb9 : Below w.heap.size w w8 := hb8.grown g8 (by rw [hsz]; omega) fun b hb => (hin b hb).1
    exact hb9.grown g9 (by omega) fun b hb => (hzn b hb).1
set_option maxRecDepth 100000 in
set_option maxHeartbeats 4000000 in
theorem writes_main (kind : UInt8) (v : Value) (L : List (List UInt8)) (w : World) (ht : Tab w) (hp : Parts w w.heap.size v L) (hL : L.length ≤ 20) :
    Calls Tryd.prog 3 #[.int .u8 ((kind.toNat : Nat) : Int), v] w fun e w' => e = .returned (.bool true) ∧ Below w.heap.size w w' := by
  have HT := Lib.hid ht
  have z := zeroPage
  obtain ⟨A, c, vs, hv, hr, he, hlen⟩ := id hp
  subst hv
  have hvl : vs.length ≤ 20 := by rw [he.1]; exact hL
  have HF : Hid (L.take vs.length = L) := Lib.hid (by rw [he.1]; exact List.take_length)
  have s0 := speaks_any _ ht
  clear hp hlen ht
  have d1 : decide ((20 : Int) < (vs.length : Int)) = false := by simp; omega
  go_enter Tryd.func3, Tryd.ntmps3
  go_wp2_with fail
  ((with_reducible refine s0.mono ?_); rintro e w1 ⟨rfl, hb1⟩)
  go_wp2_with fail
  clear d1 s0
  have hb2 := (hb1.alloc hb1.size (.cells #[] 24)).alloc (by simp; have := hb1.size; omega) (.cells #[] 5)
  have O2 : World.ownsRow ((w1.alloc (.cells #[] 24)).alloc (.cells #[] 5)) w.heap.size 24 1 (.slice (some ⟨w1.heap.size, 0, none⟩) 0 0) 0 [] := World.ownsRow.alloc (World.ownsRow_made w1 #[] 0 hb1.size (by simp [maxLen]) rfl) _
  have Z2 : World.ownsRow ((w1.alloc (.cells #[] 24)).alloc (.cells #[] 5)) w.heap.size 5 1 (.slice (some ⟨w1.heap.size + 1, 0, none⟩) 0 0) 0 [] := by
    have := World.ownsRow_made (base := w.heap.size) (e := 5) (size := 1) (w1.alloc (.cells #[] 24)) #[] 0 (by simp; have := hb1.size; omega) (by simp [maxLen]) rfl
    rw [World.size_alloc] at this
    exact this
  go_loopw [5, 6, 27] (fun u z i wr => ∃ k : Nat, k ≤ vs.length ∧ i = .int .i64 k ∧ ∃ A' c' xs Z n cz, u = .slice A' k c' ∧ z = .slice Z n cz ∧ n ≤ 300 * k ∧ Hid (n = (L.take k).flatten.length) ∧ wr.ownsRow w.heap.size 24 1 (.slice A' k c') k xs ∧ wr.ownsRow w.heap.size 5 1 (.slice Z n cz) n (bv (L.take k).flatten) ∧
      Apart (.slice A' k c') (.slice Z n cz) ∧ Hid (EachS wr (fun b => w.heap.size ≤ b ∧ b < wr.heap.size ∧ (.slice A' k c' : Value).ownBlock ≠ some b ∧ (.slice Z n cz : Value).ownBlock ≠ some b) xs (L.take k)) ∧ Below w.heap.size w wr) (fun _ _ i _ => vs.length - (intOf i).toNat)
  case atStart => exact ⟨0, Nat.zero_le _, rfl, _, _, [], _, _, _, rfl, rfl, Nat.zero_le _, Lib.hid rfl, O2, Z2, (fun b h1 h2 => by simp [Value.ownBlock] at h1 h2; omega), Lib.hid ⟨rfl, fun i v hv => by simp at hv⟩, hb2⟩
  case round =>
    rename_i wr
    obtain ⟨k, hk, rfl, A', c', xs, Z, n, cz, rfl, rfl, hn, HN, hO, hZ, hA, hE, hbr⟩ := hrel
    clear O2 Z2 hb2 hb1
    have HAP := Lib.hid hA
    clear hA
    by_cases hlt2 : k < vs.length
    · obtain ⟨a, rfl, hab, hcell⟩ := hr.at_ hlt2
      obtain ⟨l, hl, Ai, ci, hv, hlc, hcm, hrow⟩ := he.at_ hlt2
      have hby : Bytes wr w.heap.size (.slice Ai l.length ci) l := Bytes.below ⟨Ai, ci, rfl, hlc, hcm, hrow⟩ hbr
      have hc2 := (hbr.cell (p := a.add k) (by rw [add_block]; exact hab)).trans hcell
      rw [hv] at hc2
      have HL := Lib.hid hl
      have HY := Lib.hid hby
      have HY0 : Hid (Bytes w w.heap.size (.slice Ai l.length ci) l) := Lib.hid ⟨Ai, ci, rfl, hlc, hcm, hrow⟩
      clear hv hl hcell hby hrow
      unfold maxLen at hcm
      by_cases h1 : 300 < l.length
      · have d1 : decide ((300 : Int) < (l.length : Int)) = true := by simp; omega
        go_wp2_with fail
        go_ret
        exact ⟨rfl, hbr⟩
      · have d1 : decide ((300 : Int) < (l.length : Int)) = false := by simp; omega
        have hb2 := (Below.refl wr.heap.size wr).alloc (Nat.le_refl _) (.cells #[] 5)
        have O2 := Own.made (e := 5) (base := wr.heap.size) (w := wr) #[] 0 (Nat.le_refl _) (by simp) rfl wr.heap.size rfl
        have D2 := Lib.hid (HY.out.keep (w' := wr.alloc (.cells #[] 5)) fun p hp => hb2.cell (Nat.lt_of_lt_of_le hp hbr.size))
        have hz2 := hb2.size
        have hnl : (bv l).length = l.length := bv_length l
        have HNL := Lib.hid hnl
        clear hnl
        go_wp2_with (first
          | (at_builtin; refine wpl_append_bytes byteTys rfl (.tmp 35) (.tmp 36) rfl rfl O2 _ _ _ rfl D2.out (by simp; omega) hz2 l.length (by simp) ?_; intro A7 c7 w7 O7 g7 h7; have hb7 := hb2.trans g7; have hO7 := (World.ownsRow.kept hO (only_of_below hb7 none) (by cases (Value.slice A' k c').ownBlock <;> simp)).alloc (.cells #[.slice A7 l.length c7] 24); have R7 := Row.new (B := w7.heap.size + 1) w7 #[.slice A7 l.length c7] 24 (0, 0) w7.heap.size rfl (by omega); have hz7 : w.heap.size ≤ (w7.alloc (.cells #[.slice A7 l.length c7] 24)).heap.size := Nat.le_trans hbr.size (Nat.le_trans hb7.size (by simp)))
          | (at_builtin; refine wpl_append_vals sliceTys rfl (.tmp 34) (.tmp 38) rfl k rfl hO7 _ _ _ _ 1 rfl rfl R7 (by intro u hu; simp at hu; subst hu; rfl) (by omega) (by simp only [maxLen]; omega) hz7 (k + 1) rfl ?_; intro A8 c8 w8 O8 g8 h8; rw [List.nil_append] at O7; have Z8 := World.ownsRow.kept ((World.ownsRow.kept hZ (only_of_below hb7 none) (by cases (Value.slice Z n cz).ownBlock <;> simp)).alloc (.cells #[.slice A7 l.length c7] 24)) g8 (by cases hb : (Value.slice Z n cz).ownBlock with | none => exact .inl rfl | some b => exact .inr (fun e => HAP.out b e.symm hb)); have hz8 := Nat.le_trans hz7 g8.size; have b8 : Below w.heap.size w w8 := ((hbr.trans (hb7.mono hbr.size)).alloc (Nat.le_trans hbr.size hb7.size) _).grown g8 hz7 (fun b hb => (hO.lt b hb).1); have HY8 := Lib.hid (HY0.out.below b8); obtain ⟨_, _, hcc, _, _, hrow8⟩ := HY8.out; cases hcc)
          | (at_builtin; refine wpl_append_vals byteTys rfl (.tmp 40) (.tmp 41) rfl n rfl Z8 _ _ _ _ l.length HNL.out rfl hrow8 (fun u hu => bv_one hu) (by omega) (by simp only [maxLen]; omega) hz8 (n + l.length) rfl ?_; intro Z9 c9 w9 O9 g9 h9; have E9 := in_step HL.out (by omega) hbr hO hZ HAP.out hE.out hb7 O7 g8 h8 O8 g9 h9))
        have hfl : (L.take (k + 1)).flatten = (L.take k).flatten ++ l := by rw [take_snoc L HL.out, List.flatten_append]; simp
        have O9' : w9.ownsRow w.heap.size 5 1 (.slice Z9 (n + l.length) c9) (n + l.length) (bv (L.take (k + 1)).flatten) := by rw [hfl, bv_append]; exact O9
        have HN' : Hid (n + l.length = (L.take (k + 1)).flatten.length) := Lib.hid (by rw [hfl, List.length_append, ← HN.out])
        clear O9 g9 h9 g8 h8 O8 Z8 hfl
        exact ⟨⟨k + 1, by omega, by go_num, A8, c8, _, Z9, n + l.length, c9, rfl, rfl, by omega, HN', E9.2.1, O9', E9.2.2.1, Lib.hid E9.1, E9.2.2.2⟩, by simp [intOf]; omega⟩
    · obtain rfl : k = vs.length := by omega
      obtain ⟨W, hW⟩ : ∃ W, W = wr := ⟨_, rfl⟩
      subst hW
      rw [HF.out] at hE HN hZ
      have hxs : xs.length = vs.length := by rw [hE.out.1, ← he.1]
      have hrow := ownsRow_row hO
      have hP : Parts W W.heap.size (.slice A' vs.length c') L := ⟨A', c', xs, by rw [hxs], hrow, hE.out.each fun b hb => hb.2.1, by rw [hxs]; simp only [maxLen]; omega⟩
      have hZr := ownsRow_row hZ
      obtain ⟨body, hbody⟩ : ∃ body, body = L.flatten := ⟨_, rfl⟩
      rw [← hbody] at HN hZr hZ
      have hn6 : n ≤ 6000 := by omega
      obtain rfl : n = body.length := HN.out
      have HZB : Hid (Bytes W W.heap.size (.slice Z body.length cz) body) := Lib.hid (Own.bytes (e := 5) (base := w.heap.size) hZ (by simp only [maxLen]; omega))
      have HROW := Lib.hid hrow
      have HXS := Lib.hid hxs
      have HZR := Lib.hid hZr
      have k1 := write_any kind _ L W _ (Nat.le_refl _) hP (HT.out.below hbr HT.out.lt) (by rw [← hbody]; omega)
      rw [← hbody] at k1
      obtain ⟨P, hPe⟩ : ∃ P, P = (FM.writeM kind body).1 := ⟨_, rfl⟩
      obtain ⟨e1, he1⟩ : ∃ e1, e1 = (FM.writeM kind body).2 := ⟨_, rfl⟩
      have l1 : P.length = 258 := hPe ▸ FM.writeM_length kind body
      have k2 : ∀ w', Below W.heap.size W w' → Calls Tryd.prog 10 #[.int .u8 ((kind.toNat : Nat) : Int), .slice Z body.length cz] w' fun e w'' => e = .returned (.tuple #[.agg (cl P), .int .i64 (e1 : Int)]) ∧ Below w'.heap.size w' w'' := fun w' hb => by
        rw [hPe, he1]
        by_cases hbad : kind = 0 ∨ kind = 255 ∨ 240 < body.length
        · have := refWrite_bad kind body Z cz w' (by simp only [maxLen]; omega) hbad
          unfold FM.writeM
          rw [if_pos hbad]
          exact this
        · have := refWrite_good kind body Z cz w' W.heap.size (HZR.out.below hb) hb.size (fun e => hbad (.inl e)) (fun e => hbad (.inr (.inl e))) (by omega)
          unfold FM.writeM
          rw [if_neg hbad]
          exact this
      have HK2 := Lib.hid k2
      rw [← hPe, ← he1] at k1
      have HPE : Hid (P = (FM.writeM kind body).1 ∧ e1 = (FM.writeM kind body).2) := Lib.hid ⟨hPe, he1⟩
      clear hP hrow hxs hZr hO hZ k2 hPe he1 hbody
      go_wp2_with fail
      ((with_reducible refine k1.mono ?_); rintro e w2 ⟨rfl, hb2⟩)
      clear k1
      go_wp2_with (with_reducible refine wpl_pstore (.tmp 9) (.tmp 48) rfl rfl (PArr.new w2 pzeros_length) rfl l1 rfl ?_; intro w3 Q3 gg3 e3)
      have B3 := pkeep_new hb2 hb2.size gg3
      have Q3' := Lib.hid Q3
      have k3 := HK2.out _ B3
      clear HK2 gg3 e3 hb2
      have hle2 := Q3.lt
      obtain ⟨g9, hg9⟩ : ∃ g9, g9 = w2.heap.size := ⟨_, rfl⟩
      rw [← hg9] at Q3' hle2 ⊢
      clear Q3 hg9
      ((with_reducible refine k3.mono ?_); rintro e w4 ⟨rfl, hb4⟩)
      have Q4 := Lib.hid (Q3'.out.after hb4)
      have B4 := B3.trans (hb4.mono B3.size)
      have hEq : ∀ w, (Op.equalIn 10000 26 (.agg (cl P)) (.agg (cl P))).run Tryd.prog w = .ok true w := fun w => by
        have := equalIn_pcl l1 l1 w
        rw [decide_eq_true rfl] at this
        exact this
      clear k3 B3 Q3' hb4
      go_wp2_with (first
        | (with_reducible refine wpl_pstore (.tmp 11) (.tmp 54) rfl rfl (PArr.new w4 pzeros_length) rfl l1 rfl ?_; intro w5 Q5 gg5 e5; have Q9 := (Q4.out.alloc (.cells (cl pzeros) 26)).grown gg5 (by have := Q4.out.lt; omega))
        | (with_reducible refine wpl_pload (.tmp 9) rfl rfl Q9 rfl ?_)
        | (with_reducible refine wpl_pload (.tmp 11) rfl rfl Q5 rfl ?_))
      have B5 := pkeep_new B4 B4.size gg5
      have Q9' := Lib.hid Q9
      clear gg5 e5 Q5 Q4 B4 hEq Q9
      go_loopw [66] (fun i wl => ∃ k : Nat, k ≤ vs.length ∧ i = .int .i64 k ∧ PArr wl g9 P ∧ Below W.heap.size W wl) (fun i _ => vs.length - (intOf i).toNat)
      case atStart => exact ⟨0, Nat.zero_le _, rfl, Q9'.out, B5⟩
      case round =>
        obtain ⟨k, hk, rfl, hQ, hbl⟩ := hrel
        have HQ := Lib.hid hQ
        clear Q9' B5 hQ
        have hbw := hbr.trans (hbl.mono hbr.size)
        by_cases hlt3 : k < vs.length
        · obtain ⟨a, rfl, hab, hcell⟩ := hr.at_ hlt3
          obtain ⟨l, hl, Ai, ci, hv, hlc, hcm, hrow⟩ := he.at_ hlt3
          have hby : Bytes w w.heap.size (.slice Ai l.length ci) l := ⟨Ai, ci, rfl, hlc, hcm, hrow⟩
          have hc2 := (hbw.cell (p := a.add k) (by rw [add_block]; exact hab)).trans hcell
          rw [hv] at hc2
          have hkx : k < xs.length := by rw [HXS.out]; exact hlt3
          obtain ⟨a3, rfl, hab3, hcell3⟩ := HROW.out.at_ hkx
          obtain ⟨l3, hl3, hb3⟩ := (hE.out.each (B := W.heap.size) fun b hb => hb.2.1).at_ hkx
          obtain rfl : l3 = l := by rw [hl] at hl3; exact (Option.some.inj hl3).symm
          obtain ⟨Ax, cx, hx, _, _, _⟩ := id hb3
          have hc3 := (hbl.cell (p := a3.add k) (by rw [add_block]; exact hab3)).trans hcell3
          rw [hx] at hc3 hb3
          have S1 := fun m => str_of (Bytes.keep (w' := World.drewN _ m) (hby.below hbw) fun p _ => rfl)
          have S2 := fun m => str_of (Bytes.keep (w' := World.drewN _ m) (hb3.below hbl) fun p _ => rfl)
          have HX := Lib.hid hx
          clear hv hl hl3 hcell hcell3 hrow hx
          unfold maxLen at hcm
          go_wp2_with fail
          go_quiet (fail)
          clear S1 S2
          have hbq : Below W.heap.size W (wr.drewN nq) := ⟨hbl.os, hbl.tape, hbl.output, hbl.size, hbl.block⟩
          have hqq : PArr (wr.drewN nq) g9 P := HQ.out
          go_wp2_with fail
          exact ⟨⟨k + 1, by omega, by go_num, hqq, hbq⟩, by simp [intOf]; omega⟩
        · obtain rfl : k = vs.length := by omega
          clear hlt3 hk
          by_cases h1 : e1 = 0
          · subst h1
            have hPK : kind ≠ 0 ∧ kind ≠ 255 ∧ body.length ≤ 240 ∧ P = FM.page kind body := by
              obtain ⟨r1, r2⟩ := HPE.out
              unfold FM.writeM at r1 r2
              split at r2
              · cases r2
              · rename_i hn
                rw [if_neg hn] at r1
                exact ⟨fun e => hn (.inl e), fun e => hn (.inr (.inl e)), by omega, r1⟩
            obtain ⟨hk0, hk1, hb240, hPP⟩ := hPK
            have s2 := read_any P l1 _ (HT.out.below hbw HT.out.lt)
            have s3 := blank_any P l1
            rw [hPP, FM.turn_none hb240 hk0 hk1, ← hPP] at s2
            rw [hPP, FM.zero_blank (i := 242) (by omega) (FM.page_zero hb240 (by omega) (by omega)), ← hPP] at s3
            clear HPE hPP hk0 hk1
            go_wp2_with (with_reducible refine wpl_pload (.tmp 9) rfl rfl HQ.out rfl ?_)
            ((with_reducible refine s2.mono ?_); rintro e w10 ⟨v10, rfl, Y10, hb10⟩)
            have Q10 := Lib.hid (HQ.out.after hb10)
            have hbl10 := hbl.trans (hb10.mono hbl.size)
            have hbw10 := hbr.trans (hbl10.mono hbr.size)
            have HY10 := Lib.hid Y10
            obtain ⟨A10, c10, rfl, _, _, _⟩ := Y10
            have S3 := str_of HY10.out
            have S4 := str_of (HZB.out.below hbl10)
            clear s2 hb10 HQ
            go_wp2_with (with_reducible refine wpl_pload (.tmp 9) rfl rfl Q10.out rfl ?_)
            ((with_reducible refine (s3 _).mono ?_); rintro e w11 ⟨rfl, hb11⟩)
            go_wp2_with fail
            go_ret
            exact ⟨rfl, hbw10.trans (hb11.mono hbw10.size)⟩
          · have d3 : ((e1 : Int) != 0) = true := by simp; omega
            go_wp2_with fail
            go_ret
            exact ⟨rfl, hbw⟩
set_option maxHeartbeats 1000000 in
theorem frameWrites_any (a : Int) (v : Value) (w : World) (ht : Tab w) (ha : (Lit.int .u8 a).wf = true) (h : ∃ L, Parts w w.heap.size v L) :
    Calls Tryd.prog 3 #[.int .u8 a, v] w fun e w' => e = .returned (.bool true) ∧ Below w.heap.size w w' := by
  obtain ⟨L, hp⟩ := h
  obtain ⟨k, rfl⟩ := u8_of_wf ha
  by_cases hL : L.length ≤ 20
  · exact writes_main k v L w ht hp hL
  · obtain ⟨A, c, vs, hv, hr, he, hlen⟩ := hp
    subst hv
    have hvl : 20 < vs.length := by rw [he.1]; omega
    unfold maxLen at hlen
    have s0 := speaks_any _ ht
    clear hr he ht
    have d1 : decide ((20 : Int) < (vs.length : Int)) = true := by simp; omega
    go_enter Tryd.func3, Tryd.ntmps3
    go_wp2_with fail
    ((with_reducible refine s0.mono ?_); rintro e w1 ⟨rfl, hb1⟩)
    go_wp2_with fail
    go_ret
    exact ⟨rfl, hb1⟩
end Go.Proofs.YtnclefdlmbkjmaaDoor

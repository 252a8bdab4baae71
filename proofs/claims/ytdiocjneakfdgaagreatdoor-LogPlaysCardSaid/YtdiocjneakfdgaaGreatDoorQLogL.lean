/- Several texts of the proof, joined: what each has is said at its head. -/
import Derived.Test.YtdiocjneakfdgaaGreatDoorQLogJ
import Derived.Test.YtdiocjneakfdgaaGreatDoorQLogK
import Derived.Test.YtdiocjneakfdgaaGreatDoorQLogF
import Derived.Deep.DeepCutAuto
/- The laws' put: a record is appended to a log and to a list. Condition: the log is in order, its free blocks are clear; few calls so far. -/
namespace Go.Proofs.YtdiocjneakfdgaaGreatDoor
open Go.RowKit
/-- what one round does to the slices that the call holds -/
theorem each_step {w wr w7 w8 : World} {A' A7 A8 : Option Addr} {k c' c7 c8 : Nat} {xs : List Value} {L : List (List UInt8)} {l : List UInt8}
    (hl : L[k]? = some l) (hln : l.length ≤ 1000) (hbr : Below w.heap.size w wr) (hO : wr.ownsRow w.heap.size 62 1 (.slice A' k c') k xs)
    (hE : EachS wr (fun b => w.heap.size ≤ b ∧ b < wr.heap.size ∧ (.slice A' k c' : Value).ownBlock ≠ some b) xs (L.take k))
    (hb7 : Below wr.heap.size wr w7) (O7 : Own 5 w7 wr.heap.size (.slice A7 l.length c7) l)
    (g8 : (w7.alloc (.cells #[.slice A7 l.length c7] 62)).grownBy w8 (.slice A' k c' : Value).ownBlock)
    (h8 : (.slice A8 (k + 1) c8 : Value).ownBlock = (.slice A' k c' : Value).ownBlock ∨ (.slice A8 (k + 1) c8 : Value).ownBlock = some (w7.alloc (.cells #[.slice A7 l.length c7] 62)).heap.size) :
    EachS w8 (fun b => w.heap.size ≤ b ∧ b < w8.heap.size ∧ (.slice A8 (k + 1) c8 : Value).ownBlock ≠ some b) (xs ++ [.slice A7 l.length c7]) (L.take (k + 1)) ∧ Below w.heap.size w w8 := by
  have hz1 := hbr.size
  have hz2 := hb7.size
  have hz3 := g8.size
  have hsz : (w7.alloc (.cells #[.slice A7 l.length c7] 62)).heap.size = w7.heap.size + 1 := by simp
  rw [hsz] at hz3 h8
  have hin := hO.lt
  have h7 := O7.lt
  have hal : ∀ b, b < w7.heap.size → (w7.alloc (.cells #[.slice A7 l.length c7] 62)).heap[b]? = w7.heap[b]? := fun b hb => Below.heap_alloc w7 _ b hb
  refine ⟨?_, ?_⟩
  · rw [take_snoc L hl]
    refine EachS.snoc (hE.keep ?_) ((O7.bytesS (by simp only [maxLen]; omega)).keep ?_)
    · rintro b ⟨b1, b2, b3⟩
      refine ⟨⟨b1, by omega, ?_⟩, ?_⟩
      · rcases h8 with h8 | h8
        · rw [h8]; exact b3
        · rw [h8]; intro e; injection e with e; omega
      · rw [g8.block b (by omega) (fun e => b3 e.symm), hal b (by omega), hb7.block b b2]
    · intro b hb
      obtain ⟨q1, q2⟩ := h7 b hb
      have hne : (.slice A' k c' : Value).ownBlock ≠ some b := fun e => by
        have := hin b e
        omega
      refine ⟨⟨by omega, by omega, ?_⟩, ?_⟩
      · rcases h8 with h8 | h8
        · rw [h8]; exact hne
        · rw [h8]; intro e; injection e with e; omega
      · rw [g8.block b (by omega) (fun e => hne e.symm), hal b q2]
  · have hb8 : Below w.heap.size w (w7.alloc (.cells #[.slice A7 l.length c7] 62)) := (hbr.trans (hb7.mono hz1)).alloc (by omega) _
    exact hb8.grown g8 (by rw [hsz]; omega) fun b hb => (hin b hb).1
section
variable {w w0 : World} {g h d t : Nat} {a : At} {X : DS} {N C : Nat} {Bs : List LB} {num : Nat} {os : List Nat}
/-- what put leaves -/
def Put8 (w w' : World) (g h d t : Nat) (a : At) (N C lo m num n : Nat) (A' : Option Addr) (L' : List RR) : Prop :=
  ∃ X' Bs' os' num', LogS w' g h d t a X' N (C + 10) Bs' os' num' ∧ num' ≤ num + 1 ∧ WearLe Bs' n ∧ L' = listOf Bs' os' ∧ RecB w' lo A' L' ∧ L'.length ≤ m + 1 ∧ Chg w w' (a.log t d g h)
def PutR (w : World) (g h d t : Nat) (a : At) (N C lo m num n : Nat) (e : Ending) (w' : World) : Prop := ∃ (A' : Option Addr) (c' r : Nat) (L' : List RR), e = .returned (.tuple #[.slice A' L'.length c', .int .i64 (r : Int), .bool true]) ∧ r ≠ 30 ∧ Put8 w w' g h d t a N C lo m num n A' L'
theorem row_of_blk {w : World} {q : Nat} {ty : TypeId} {cs : List Value} (hB : Blk w q ty cs) : Row w w.heap.size (some ⟨q, 0, none⟩) cs := fun j u hu => by
  refine ⟨⟨q, 0, none⟩, rfl, hB.lt, ?_⟩
  rw [add_off, Nat.zero_add, hB.cell]
  exact hu
theorem PutR.same {w w6 w' : World} {lo n num0 : Nat} {A : Option Addr} {c r : Nat} {L : List RR} {X' : DS} {Bs' : List LB} {os' : List Nat} {num' : Nat} (hL : RecB w lo A L) (hlo : ∀ k, a.log t d g h k → k < lo) (hr : r ≠ 30) (l : LogS w6 g h d t a X' N (C + 10) Bs' os' num') (h1 : num' ≤ num0 + 1) (h2 : WearLe Bs' n) (h3 : L = listOf Bs' os') (hc : Chg w w6 (a.log t d g h)) (hb : Below w6.heap.size w6 w') : PutR w g h d t a N C lo L.length num0 n (.returned (.tuple #[.slice A L.length c, .int .i64 (r : Int), .bool true])) w' :=
  ⟨A, c, r, L, rfl, hr, X', Bs', os', num', l.after hb, h1, h2, h3, (hL.chg hc hlo).after hb, Nat.le_succ _, hc.trans (Chg.of_below hb)⟩
theorem PutR.more {w w6 w' : World} {lo n num0 B : Nat} {A9 : Option Addr} {c9 : Nat} {L : List RR} {r : RR} {X' : DS} {Bs' : List LB} {os' : List Nat} {num' : Nat} (l : LogS w6 g h d t a X' N (C + 10) Bs' os' num') (h1 : num' ≤ num0 + 1) (h2 : WearLe Bs' n) (h3 : L ++ [r] = listOf Bs' os') (hc : Chg w w6 (a.log t d g h)) (hb : Below w6.heap.size w6 w') (hB : lo ≤ B) (ho : w'.ownsRow B 46 4 (.slice A9 (L.length + 1) c9) (L.length + 1) (([] ++ L.flatMap rr8) ++ ([r] : List RR).flatMap rr8)) : PutR w g h d t a N C lo L.length num0 n (.returned (.tuple #[.slice A9 (L.length + 1) c9, .int .i64 0, .bool true])) w' := by
  have e0 : L.length + 1 = (L ++ [r]).length := by rw [List.length_append, List.length_singleton]
  refine ⟨A9, c9, 0, L ++ [r], (by rw [← e0]; rfl), by decide, X', Bs', os', num', l.after hb, h1, h2, h3, ?_, Nat.le_of_eq e0.symm, hc.trans (Chg.of_below hb)⟩
  refine (RecB.of (c := c9) (L := L ++ [r]) e0 ?_).lower hB
  rw [List.flatMap_append]
  simpa using ho
set_option maxRecDepth 100000 in
set_option maxHeartbeats 16000000 in
theorem put8_any (l : LogS w g h d t a X N C Bs os num) (hnum : num < 1000000) {n : Nat} (hw : WearLe Bs n) (hC : C ≤ 3900) (A : Option Addr) (c lo : Nat) (L : List RR) (hLo : L = listOf Bs os) (hL : RecB w lo A L) (hlen : L.length ≤ 1000) (hlo : ∀ k, a.log t d g h k → k < lo) (hlw : lo ≤ w.heap.size)
    (o : Op8) (ho : o.ok w0 w0.heap.size) (hb0 : Below w0.heap.size w0 w) (h5 : o.L.length ≤ 5) (h260 : ∀ l ∈ o.L, l.length ≤ 260) :
    Calls Tryz.prog 11 #[.pointer (some ⟨g, 0, none⟩), .slice A L.length c, .agg o.row.toArray] w fun e w' => PutR w g h d t a N C lo L.length num n e w' := by
  obtain ⟨ok_, orc, on, okp, oty, ov, oL⟩ := o
  have hpv := ho.v
  simp only at hpv h5 h260
  obtain ⟨Ao, co, vs, rfl, hrow, heach, hvl⟩ := id hpv
  show Calls Tryz.prog 11 #[.pointer (some ⟨g, 0, none⟩), .slice A L.length c, .agg #[.int .i64 ok_, .int .i64 orc, .int .i64 on, .int .i64 okp, .int .u8 ((oty.toNat : Nat) : Int), .slice Ao vs.length co]] w _
  have hvs : vs.length ≤ 5 := by rw [heach.1]; exact h5
  have HF : Hid (oL.take vs.length = oL) := Lib.hid (by rw [heach.1]; exact List.take_length)
  have HR := Lib.hid hrow
  have HE := Lib.hid heach
  have HB0 := Lib.hid hb0
  have H260 := Lib.hid h260
  have HL := Lib.hid hL
  have HLO := Lib.hid hlo
  have HLS := Lib.hid hLo
  have HFL : Hid (oL.flatten.length ≤ 1300) := Lib.hid (by have h1 := flat_bound h260; have h2 : oL.length * 260 ≤ 5 * 260 := Nat.mul_le_mul_right _ h5; omega)
  have KJ : Hid (∀ W, Below w.heap.size w W → Calls Tryz.prog 27 #[.slice Ao vs.length co] W fun e w' => e = .returned (.string ⟨oL.flatten.toArray⟩) ∧ W = w') := Lib.hid (fun W hW => joined_any _ oL W w0 hpv (hb0.trans (hW.mono hb0.size)) h5 h260)
  have KF := Lib.hid (fun W (hW : Below w.heap.size w W) => free_any (l.after hW).lg)
  have KR := Lib.hid (fun W (hW : Below w.heap.size w W) => room_any8 (l.after hW).lg l.o)
  have KA : Hid (∀ W (_ : Below w.heap.size w W) (v : Value) (_ : Parts W W.heap.size v oL), Calls Tryz.prog 16 #[.pointer (some ⟨g, 0, none⟩), .int .u8 ((oty.toNat : Nat) : Int), v] W fun e w' => ∃ x k r : Nat, e = .returned (.tuple #[.agg (plc x k).toArray, .int .i64 (r : Int)]) ∧ ∃ X' Bs' os' num', LogS w' g h d t a X' N (C + 10) Bs' os' num' ∧ num' ≤ num + 1 ∧ WearLe Bs' n ∧ Chg W w' (a.log t d g h) ∧ Apd Bs os N oty oL.flatten Bs' os' x k r) := Lib.hid (fun W hW v hv => append_all (l.after hW) hnum hw hC oty v oL W.heap.size (Nat.le_refl _) hv (by have h1 := flat_bound h260; have h2 : oL.length * 260 ≤ 5 * 260 := Nat.mul_le_mul_right _ h5; omega))
  have HLW := Lib.hid hlw
  have KX := Lib.hid (right_any oty oL.flatten.length)
  obtain ⟨FR, hFR⟩ : ∃ FR, freeTo Bs (N - 6) = FR := ⟨_, rfl⟩
  obtain ⟨RO, hRO⟩ : ∃ RO, roomOf Bs os = RO := ⟨_, rfl⟩
  have HFR := Lib.hid hFR
  have HRO := Lib.hid hRO
  rw [hFR] at KF
  rw [hRO] at KR
  obtain ⟨Z, hZ⟩ : ∃ Z : ByteArray, ⟨oL.flatten.toArray⟩ = Z := ⟨_, rfl⟩
  have HZ := Lib.hid hZ
  have HZS : Hid (Z.size = oL.flatten.length) := Lib.hid (by rw [← hZ]; simp [ByteArray.size])
  rw [hZ] at KJ
  rw [← HZS.out] at KX
  obtain ⟨tn, htn⟩ : ∃ tn : Int, ((oty.toNat : Nat) : Int) = tn := ⟨_, rfl⟩
  have HTN := Lib.hid htn
  rw [htn] at KA KX ⊢
  clear l hnum hw hC hLo hL hlo hlw ho hb0 h5 h260 hpv hrow heach hFR hRO hZ htn
  go_enter Tryz.func11, Tryz.ntmps11
  go_wp2_with fail
  obtain ⟨V1, hV1⟩ : ∃ V1, w.alloc (.cells #[.int .i64 ok_, .int .i64 orc, .int .i64 on, .int .i64 okp, .int .u8 tn, .slice Ao vs.length co] 41) = V1 := ⟨_, rfl⟩
  have b1 : Hid (Below w.heap.size w V1) := Lib.hid (by rw [← hV1]; exact (Below.refl w.heap.size w).alloc (Nat.le_refl _) _)
  have R1 : Hid (Blk V1 w.heap.size 41 [.int .i64 ok_, .int .i64 orc, .int .i64 on, .int .i64 okp, .int .u8 tn, .slice Ao vs.length co]) := Lib.hid (by rw [← hV1]; exact Blk.new w _ _)
  have b2 := Lib.hid ((Below.refl V1.heap.size V1).alloc (Nat.le_refl _) (.cells #[] 62))
  have O2 : Hid (World.ownsRow (V1.alloc (.cells #[] 62)) V1.heap.size 62 1 (.slice (some ⟨V1.heap.size, 0, none⟩) 0 0) 0 []) := Lib.hid (World.ownsRow_made V1 #[] 0 (Nat.le_refl _) (by simp [maxLen]) rfl)
  have hs1 : w.heap.size + 1 = V1.heap.size := by rw [← hV1, World.size_alloc]
  obtain ⟨s, hs⟩ : ∃ s, w.heap.size = s := ⟨_, rfl⟩
  have HS := Lib.hid hs
  rw [hs] at R1
  have c5 := (R1.out.after b2.out).cell 5
  try rw [hV1]
  try rw [hs1]
  try rw [hs]
  clear hV1 hs1 hs
  go_loopw [9, 11, 22] (fun u _ i wr => ∃ k : Nat, k ≤ vs.length ∧ i = .int .i64 k ∧ ∃ A' c' xs, u = .slice A' k c' ∧ Hid (wr.ownsRow V1.heap.size 62 1 (.slice A' k c') k xs) ∧
      Hid (EachS wr (fun b => V1.heap.size ≤ b ∧ b < wr.heap.size ∧ (.slice A' k c' : Value).ownBlock ≠ some b) xs (oL.take k)) ∧ Hid (Below V1.heap.size V1 wr)) (fun _ _ i _ => vs.length - (intOf i).toNat)
  case atStart => exact ⟨0, Nat.zero_le _, rfl, _, _, [], rfl, O2, Lib.hid ⟨rfl, fun i v hv => by simp at hv⟩, b2⟩
  case round =>
    obtain ⟨k, hk, rfl, A', c', xs, rfl, HO, HEE, HBR⟩ := hrel
    clear O2 b2 c5
    by_cases hlt2 : k < vs.length
    · obtain ⟨a1, rfl, hab, hcell⟩ := HR.out.at_ hlt2
      obtain ⟨l, hl, hBy⟩ := HE.out.at_ hlt2
      have HB3 := Lib.hid ((HB0.out.trans (b1.out.mono HB0.out.size)).trans (HBR.out.mono (by have h1 := b1.out.size; have h2 := HB0.out.size; omega)))
      have HY := Lib.hid (hBy.below HB3.out)
      obtain ⟨Ai, ci, hv, hlc, hcm, _⟩ := hBy
      have hc2 := (HB3.out.cell (p := a1.add k) (by rw [add_block]; exact hab)).trans hcell
      rw [hv] at hc2 HY
      have HLL := Lib.hid hl
      have hl2 : l.length ≤ 260 := H260.out l (List.mem_of_getElem? hl)
      have HL2 := Lib.hid hl2
      clear hv hl hcell hcm hlc hab hl2
      have hb2 := Lib.hid ((Below.refl wr.heap.size wr).alloc (Nat.le_refl _) (.cells #[] 5))
      have O2 := Own.made (e := 5) (base := wr.heap.size) (w := wr) #[] 0 (Nat.le_refl _) (by simp) rfl wr.heap.size rfl
      have D2 := Lib.hid (HY.out.alloc (by have := HB3.out.size; omega) (.cells #[] 5))
      have hz2 := Lib.hid hb2.out.size
      go_wp2_with (first
        | (at_builtin; refine wpl_append_bytes byteTys rfl (.tmp 27) (.tmp 28) rfl rfl O2 _ _ _ rfl D2.out (by have := HL2.out; simp; omega) hz2.out l.length (by simp) ?_; intro A7 c7 w7 O7 g7 h7; have hb7 := Lib.hid (hb2.out.trans g7); have hO7 := Lib.hid ((World.ownsRow.kept HO.out (only_of_below hb7.out none) (by cases (Value.slice A' k c').ownBlock <;> simp)).alloc (.cells #[.slice A7 l.length c7] 62)); have R7 := Row.new (B := w7.heap.size + 1) w7 #[.slice A7 l.length c7] 62 (0, 0) w7.heap.size rfl (by omega); have hz7 : V1.heap.size ≤ (w7.alloc (.cells #[.slice A7 l.length c7] 62)).heap.size := Nat.le_trans HBR.out.size (Nat.le_trans hb7.out.size (by simp)); have HO7 := Lib.hid O7; clear O7 g7 h7 O2)
        | (at_builtin; refine wpl_append_vals sliceTys rfl (.tmp 26) (.tmp 30) rfl k rfl hO7.out _ _ _ _ 1 rfl rfl R7 (by intro u hu; simp at hu; subst hu; rfl) (by omega) (by simp only [maxLen]; omega) hz7 (k + 1) rfl ?_; intro A8 c8 w8 O8 g8 h8; rw [List.nil_append] at HO7; have E8 := each_step HLL.out (by have := HL2.out; omega) HBR.out HO.out HEE.out hb7.out HO7.out g8 h8; have HE8 := Lib.hid E8.1; have hb8 := Lib.hid E8.2; have HO8 := Lib.hid O8; clear E8 O8 g8 h8))
      go_roundw
      case rel => exact ⟨k + 1, by omega, by go_num, A8, c8, _, rfl, HO8, HE8, hb8⟩
      case measure => simp [intOf]; omega
    · obtain rfl : k = vs.length := by omega
      have hE2 := HEE.out
      rw [HF.out] at hE2
      have hxs : xs.length = vs.length := by rw [hE2.1]; have := HE.out.1; omega
      have HP : Hid (Parts wr wr.heap.size (.slice A' vs.length c') oL) := Lib.hid ⟨A', c', xs, by rw [hxs], ownsRow_row HO.out, hE2.each fun b hb => hb.2.1, by rw [hxs]; simp only [maxLen]; omega⟩
      have HBW := Lib.hid (b1.out.trans (HBR.out.mono b1.out.size))
      have c5 := (R1.out.after HBR.out).cell 5
      have R5 := Lib.hid (R1.out.after HBR.out)
      have K1 := Lib.hid (KJ.out _ HBW.out)
      have K2 := Lib.hid (KF.out _ HBW.out)
      clear hE2 hxs HEE HO KJ KF
      go_wp2_with (first
        | (go_at_call 27; ((with_reducible refine K1.out.mono ?_); rintro e wj ⟨rfl, rfl⟩; clear K1))
        | (go_at_call 13; ((with_reducible refine K2.out.mono ?_); rintro e w4 ⟨rfl, b4⟩; have B4 := Lib.hid (HBW.out.trans (b4.mono HBW.out.size)); have HP4 := Lib.hid ((HP.out.below b4).more b4.size); have R6 := Lib.hid (R5.out.after b4); have K3 := Lib.hid (KR.out _ B4.out); clear K2 b4))
        | (go_at_call 17; ((with_reducible refine K3.out.mono ?_); rintro e w5 ⟨rfl, b5⟩; have B5 := Lib.hid (B4.out.trans (b5.mono B4.out.size)); have HP5 := Lib.hid ((HP4.out.below b5).more b5.size); have R7 := Lib.hid (R6.out.after b5); have c4 := R7.out.cell 4; have K4 := Lib.hid (KA.out _ B5.out _ HP5.out); clear K3 b5)))
      ((with_reducible refine K4.out.mono ?_); rintro e w6 ⟨x, pk, r, rfl, X', Bs', os', num', l', hn', hw', ch', hapd⟩)
      have L6 := Lib.hid l'
      have C6 := Lib.hid ((Chg.of_below B5.out).trans ch')
      have H1 := Lib.hid hn'
      have H2 := Lib.hid hw'
      have hsl : ¬ a.log t d g h s := fun q => by have h1 := HLO.out s q; have h2 := HLW.out; have h3 := HS.out; omega
      have R8 := Lib.hid (R7.out.chg ch' hsl)
      have N6 := (show Blk (w6.alloc (.cells #[.int .i64 0, .int .i64 0] 44)) w6.heap.size 44 (plc 0 0) from Blk.new w6 44 (plc 0 0))
      have b6 := Lib.hid ((Below.refl w6.heap.size w6).alloc (Nat.le_refl _) (.cells #[.int .i64 0, .int .i64 0] 44))
      clear l' hn' hw' ch' K4 c4 c5 hsl KA KR HP HP4 HP5
      go_wp2_with (with_reducible refine wpl_seg_store sizePl (.tmp 15) (.tmp 46) rfl rfl N6 0 (plc x pk) rfl (Nat.le_refl _) (plc_one x pk) rfl rfl _ rfl ?_; intro w7 R9 g9 e9; have P7 := Lib.hid R9; have B7 := Lib.hid (show Below w6.heap.size w6 w7 from b6.out.grown g9 (by simp) (fun k e => by cases e; exact Nat.le_refl _)); have R10 := Lib.hid (R8.out.after B7.out); have c4 := R10.out.cell 4; clear N6 g9 e9 R9)
      have K5 := Lib.hid (KX.out w7)
      obtain ⟨p7, hp7⟩ : ∃ p7, w6.heap.size = p7 := ⟨_, rfl⟩
      rw [hp7] at P7 ⊢
      have pc1 : w7.cell? ⟨p7, 1, none⟩ = some (.int .i64 (pk : Int)) := P7.out.cell 1
      clear hp7 KX
      unfold Apd rightM at hapd
      rw [← HZS.out] at hapd
      rcases hapd with ⟨hr, rfl, hl'⟩ | ⟨hr, rfl, hl', hk2, hno⟩ | ⟨hr, rfl, hl', hf, ho⟩
      · rw [decide_eq_false hr] at K5
        have HH := Lib.hid hl'
        clear hr hl' pc1
        go_wp2_with (go_at_call 28; ((with_reducible refine K5.out.mono ?_); rintro e wj ⟨rfl, rfl⟩; clear K5))
        refine bodyPost_ret (results_tmp3 rfl _ _ _) rfl ?_
        exact PutR.same HL.out HLO.out (by decide) L6.out H1.out H2.out (by rw [HH.out]; exact HLS.out) C6.out B7.out
      · rw [decide_eq_true hr] at K5
        have HH := Lib.hid hl'
        have L7 := Lib.hid ((HL.out.chg C6.out HLO.out).after B7.out)
        have KH := Lib.hid (has_no A L c x pk w7 lo L7.out (by omega) (by rw [HLS.out]; exact hno))
        have d2 : decide ((2 : Int) ≤ (pk : Int)) = true := by simp; omega
        clear hr hl' hno hk2 HR HE
        go_wp2_with (first
          | (go_at_call 28; ((with_reducible refine K5.out.mono ?_); rintro e wj ⟨rfl, rfl⟩; clear K5))
          | (with_reducible refine wpl_seg_load aggPl sizePl (.tmp 15) rfl rfl P7.out 0 (plc x pk) rfl rfl rfl ?_)
          | (go_at_call 29; ((with_reducible refine KH.out.mono ?_); rintro e w8 ⟨rfl, b8⟩; have B8 := Lib.hid b8; have P8 := Lib.hid (P7.out.after b8); have R11 := Lib.hid (R10.out.after b8); have L8 := Lib.hid (L7.out.after b8); have pc2 : w8.cell? ⟨p7, 1, none⟩ = some (.int .i64 (pk : Int)) := P8.out.cell 1; clear KH b8)))
        clear pc1 pc2 d2 c4
        have HC4 : Hid (∀ w', Below w8.heap.size w8 w' → w'.cell? ⟨s, 4, none⟩ = some (.int .u8 tn)) := Lib.hid (fun w' hb => (R11.out.after hb).cell 4)
        have HP9 : Hid (∀ w', Below w8.heap.size w8 w' → Blk w' p7 44 (plc x pk)) := Lib.hid (fun w' hb => P8.out.after hb)
        have HL9 : Hid (∀ w', Below w8.heap.size w8 w' → Row w' w'.heap.size A (L.flatMap rr8)) := Lib.hid (fun w' hb => (L8.out.after hb).row)
        have HRR : Hid (([⟨oty, oL.flatten, x, pk⟩] : List RR).flatMap rr8 = [.int .u8 tn, .string Z, .int .i64 (x : Int), .int .i64 (pk : Int)]) := Lib.hid (by rw [← HTN.out, ← HZ.out]; rfl)
        have S0 : Below w8.heap.size w8 w8.drew := (Below.refl _ _).drew
        have BF : Hid (∀ w', Below w8.heap.size w8 w' → Below w6.heap.size w6 w') := Lib.hid (fun w' hb => (B7.out.trans (B8.out.mono B7.out.size)).trans (hb.mono (by have := B7.out.size; have := B8.out.size; omega)))
        have HLB : Hid (lo ≤ w8.heap.size) := Lib.hid (by have h1 := HLW.out; have h2 := C6.out.size; have h3 := B7.out.size; have h4 := B8.out.size; omega)
        clear P8 R11 L7 P7 R10 L8 R8 R7 R6 R5 HBR HBW B4 B5
        refine wp_region_held_drew (S := (fun w' => Below w8.heap.size w8 w')) (by kernel_rfl) S0 (fun _ => ?_)
        refine wpAnyH_take (i := 1) (v := .slice A L.length c) rfl (by kernel_rfl) (by kernel_rfl) (by kernel_rfl) (fun _ _ _ h => h) (Or.inl ⟨by kernel_rfl, fun w _ => by go_simp⟩) S0 ?_
        refine wpAnyH_take (i := 3) (v := .pointer (some ⟨s, 4, none⟩)) rfl (by kernel_rfl) (by kernel_rfl) (by kernel_rfl) (fun _ _ _ h => h) (Or.inl ⟨by kernel_rfl, fun w _ => by go_simp⟩) S0 ?_
        refine wpAnyH_take (i := 4) (v := .int .u8 tn) rfl (by kernel_rfl) (by kernel_rfl) (by kernel_rfl) (fun _ _ _ h => h) (yields_one (ty := 5) (fun w => by kernel_rfl) (.tmp 88) (by kernel_rfl) (by kernel_rfl) (by kernel_rfl) HC4.out) S0 ?_
        refine wpAnyH_take (i := 5) (v := .string Z) rfl (by kernel_rfl) (by kernel_rfl) (by kernel_rfl) (fun _ _ _ h => h) (Or.inl ⟨by kernel_rfl, fun w _ => by go_simp⟩) S0 ?_
        refine wpAnyH_take (i := 6) (v := .agg #[.int .i64 (x : Int), .int .i64 (pk : Int)]) rfl (by kernel_rfl) (by kernel_rfl) (by kernel_rfl) (fun _ _ _ h => h) (yields_seg aggPl sizePl (.tmp 15) (by kernel_rfl) (by kernel_rfl) (by kernel_rfl) (g := p7) (i := 0) HP9.out (show ((plc x pk).drop 0).take 2 = [.int .i64 (x : Int), .int .i64 (pk : Int)] from rfl) rfl) S0 ?_
        refine wpAnyH_take (i := 7) (v := .agg #[.int .u8 tn, .string Z, .int .i64 (x : Int), .int .i64 (pk : Int)]) rfl (by kernel_rfl) (by kernel_rfl) (by kernel_rfl) (fun _ _ _ h => h) (Or.inl ⟨by kernel_rfl, fun w _ => by go_simp⟩) S0 ?_
        refine wpAnyH_take (i := 10) (v := .int .i64 0) rfl (by kernel_rfl) (by kernel_rfl) (by kernel_rfl) (fun _ _ _ h => h) (Or.inl ⟨by kernel_rfl, fun w _ => by go_simp⟩) S0 ?_
        refine wpAnyH_take (i := 11) (v := .bool true) rfl (by kernel_rfl) (by kernel_rfl) (by kernel_rfl) (fun _ _ _ h => h) (Or.inl ⟨by kernel_rfl, fun w _ => by go_simp⟩) S0 ?_
        refine wpAnyH_ready (rs := [0, 8]) (by kernel_rfl) (by simp) (AllReadyH.cons rfl (fun K hK => ?_) (AllReadyH.cons rfl (fun K hK => ?_) AllReadyH.nil))
        · go_simp
          have S1 : Below w8.heap.size w8 ((w8.alloc (.cells #[] 46)).drew) := ((Below.refl _ _).alloc (Nat.le_refl _) _).drew
          have OA := Lib.hid (show World.ownsRow (w8.alloc (.cells #[] 46)).drew w8.heap.size 46 4 (.slice (some ⟨w8.heap.size, 0, none⟩) 0 0) 0 [] from World.ownsRow_made (size := 4) (e := 46) (base := w8.heap.size) w8 #[] 0 (Nat.le_refl _) (by simp [maxLen]) rfl)
          refine hK.out _ _ S1 (fun _ => ?_)
          clear hK K 
          obtain ⟨W1, hW1⟩ : ∃ W1, (w8.alloc (.cells #[] 46)).drew = W1 := ⟨_, rfl⟩
          have HZ1 : Hid (W1.heap.size = w8.heap.size + 1) := Lib.hid (by rw [← hW1]; exact World.size_alloc w8 _)
          rw [hW1] at S1 OA ⊢
          clear hW1
          refine wpAnyH_ready (rs := [2, 8]) (by kernel_rfl) (by simp) (AllReadyH.cons rfl (fun K hK => ?_) (AllReadyH.cons rfl (fun K hK => ?_) AllReadyH.nil))
          · skip
            refine step_append_recs (by kernel_rfl) (.tmp 85) (.tmp 86) (by kernel_rfl) (by kernel_rfl) OA.out A L.length c L rfl (by kernel_rfl) _ (HL9.out _ S1) (by omega) S1.size L.length (by omega) ?_
            intro A2 c2 w9 O2 g2
            have S5 : Below w8.heap.size w8 w9 := S1.grown g2 S1.size (fun b hb => (OA.out.lt b hb).1)
            have HO3 := Lib.hid O2
            refine hK.out _ _ S5 (fun _ => ?_)
            clear hK K O2 g2 OA
            refine wpAnyH_ready (rs := [8]) (by kernel_rfl) (by simp) (AllReadyH.cons rfl (fun K hK => ?_) AllReadyH.nil)
            go_simp
            have S6 : Below w8.heap.size w8 (w9.alloc (.cells #[.int .u8 tn, .string Z, .int .i64 (x : Int), .int .i64 (pk : Int)] 46)) := S5.alloc S5.size _
            have HO4 := Lib.hid (HO3.out.alloc (.cells #[.int .u8 tn, .string Z, .int .i64 (x : Int), .int .i64 (pk : Int)] 46))
            have RN : Hid (Row (w9.alloc (.cells #[.int .u8 tn, .string Z, .int .i64 (x : Int), .int .i64 (pk : Int)] 46)) (w9.alloc (.cells #[.int .u8 tn, .string Z, .int .i64 (x : Int), .int .i64 (pk : Int)] 46)).heap.size (some ⟨w9.heap.size, 0, none⟩) (([⟨oty, oL.flatten, x, pk⟩] : List RR).flatMap rr8)) := Lib.hid (by rw [HRR.out]; exact row_of_blk (Blk.new w9 46 [.int .u8 tn, .string Z, .int .i64 (x : Int), .int .i64 (pk : Int)]))
            refine hK.out _ _ S6 (fun _ => ?_)
            clear hK K HO3
            refine wpAnyH_ready (rs := [9]) (by kernel_rfl) (by simp) (AllReadyH.cons rfl (fun K hK => ?_) AllReadyH.nil)
            refine step_append_recs (by kernel_rfl) (.tmp 87) (.tmp 93) (by kernel_rfl) (by kernel_rfl) HO4.out _ 1 1 [⟨oty, oL.flatten, x, pk⟩] rfl (by kernel_rfl) _ RN.out (by omega) S6.size (L.length + 1) rfl ?_
            intro A9 c9 w12 O9a g9
            have S9 : Below w8.heap.size w8 w12 := S6.grown g9 S6.size (fun b hb => (HO4.out.lt b hb).1)
            have O9 := Lib.hid O9a
            refine hK.out _ _ S9 (fun _ => ?_)
            clear hK K O9a g9 RN HO4
            refine wpAnyH_take (i := 12) (v := .slice A9 (L.length + 1) c9) rfl (by kernel_rfl) (by kernel_rfl) (by kernel_rfl) (fun _ _ _ h => h) (Or.inl ⟨by kernel_rfl, fun w _ => by go_simp⟩) S9 ?_
            refine wpAnyH_take (i := 13) (v := .int .i64 0) rfl (by kernel_rfl) (by kernel_rfl) (by kernel_rfl) (fun _ _ _ h => h) (Or.inl ⟨by kernel_rfl, fun w _ => by go_simp⟩) S9 ?_
            refine wpAnyH_take (i := 14) (v := .bool true) rfl (by kernel_rfl) (by kernel_rfl) (by kernel_rfl) (fun _ _ _ h => h) (Or.inl ⟨by kernel_rfl, fun w _ => by go_simp⟩) S9 ?_
            refine wpAnyH_done (by kernel_rfl) ?_ _
            go_simp
            go_wp2
            refine bodyPost_ret (results_tmp3 rfl _ _ _) rfl ?_
            exact PutR.more L6.out H1.out H2.out (by rw [HH.out, ← HLS.out]) C6.out (BF.out _ S9) HLB.out O9.out
          · go_simp
            have S2 : Below w8.heap.size w8 (W1.alloc (.cells #[.int .u8 tn, .string Z, .int .i64 (x : Int), .int .i64 (pk : Int)] 46)) := S1.alloc S1.size _
            have OB := Lib.hid (OA.out.alloc (.cells #[.int .u8 tn, .string Z, .int .i64 (x : Int), .int .i64 (pk : Int)] 46))
            have BN := Lib.hid (Blk.new W1 46 [.int .u8 tn, .string Z, .int .i64 (x : Int), .int .i64 (pk : Int)])
            have HNE := Lib.hid (show some W1.heap.size ≠ (Value.slice (some ⟨w8.heap.size, 0, none⟩) 0 0).ownBlock from fun q => by have h : W1.heap.size = w8.heap.size := Option.some.inj q; have := HZ1.out; omega)
            refine hK.out _ _ S2 (fun _ => ?_)
            clear hK K OA
            refine wpAnyH_ready (rs := [2]) (by kernel_rfl) (by simp) (AllReadyH.cons rfl (fun K hK => ?_) AllReadyH.nil)
            refine step_append_recs (by kernel_rfl) (.tmp 85) (.tmp 86) (by kernel_rfl) (by kernel_rfl) OB.out A L.length c L rfl (by kernel_rfl) _ (HL9.out _ S2) (by omega) S2.size L.length (by omega) ?_
            intro A2 c2 w11 O2 g2
            have S5 : Below w8.heap.size w8 w11 := S2.grown g2 S2.size (fun b hb => (OB.out.lt b hb).1)
            have HO3 := Lib.hid O2
            have RN : Hid (Row w11 w11.heap.size (some ⟨W1.heap.size, 0, none⟩) (([⟨oty, oL.flatten, x, pk⟩] : List RR).flatMap rr8)) := Lib.hid (by rw [HRR.out]; exact row_of_blk (BN.out.grown g2 HNE.out))
            refine hK.out _ _ S5 (fun _ => ?_)
            clear hK K O2 g2 OB BN
            refine wpAnyH_ready (rs := [9]) (by kernel_rfl) (by simp) (AllReadyH.cons rfl (fun K hK => ?_) AllReadyH.nil)
            refine step_append_recs (by kernel_rfl) (.tmp 87) (.tmp 93) (by kernel_rfl) (by kernel_rfl) HO3.out _ 1 1 [⟨oty, oL.flatten, x, pk⟩] rfl (by kernel_rfl) _ RN.out (by omega) S5.size (L.length + 1) rfl ?_
            intro A9 c9 w12 O9a g9
            have S9 : Below w8.heap.size w8 w12 := S5.grown g9 S5.size (fun b hb => (HO3.out.lt b hb).1)
            have O9 := Lib.hid O9a
            refine hK.out _ _ S9 (fun _ => ?_)
            clear hK K O9a g9 RN HO3
            refine wpAnyH_take (i := 12) (v := .slice A9 (L.length + 1) c9) rfl (by kernel_rfl) (by kernel_rfl) (by kernel_rfl) (fun _ _ _ h => h) (Or.inl ⟨by kernel_rfl, fun w _ => by go_simp⟩) S9 ?_
            refine wpAnyH_take (i := 13) (v := .int .i64 0) rfl (by kernel_rfl) (by kernel_rfl) (by kernel_rfl) (fun _ _ _ h => h) (Or.inl ⟨by kernel_rfl, fun w _ => by go_simp⟩) S9 ?_
            refine wpAnyH_take (i := 14) (v := .bool true) rfl (by kernel_rfl) (by kernel_rfl) (by kernel_rfl) (fun _ _ _ h => h) (Or.inl ⟨by kernel_rfl, fun w _ => by go_simp⟩) S9 ?_
            refine wpAnyH_done (by kernel_rfl) ?_ _
            go_simp
            go_wp2
            refine bodyPost_ret (results_tmp3 rfl _ _ _) rfl ?_
            exact PutR.more L6.out H1.out H2.out (by rw [HH.out, ← HLS.out]) C6.out (BF.out _ S9) HLB.out O9.out
        · go_simp
          have S1 : Below w8.heap.size w8 ((w8.alloc (.cells #[.int .u8 tn, .string Z, .int .i64 (x : Int), .int .i64 (pk : Int)] 46)).drew) := ((Below.refl _ _).alloc (Nat.le_refl _) _).drew
          have BN0 := Lib.hid (show Blk (w8.alloc (.cells #[.int .u8 tn, .string Z, .int .i64 (x : Int), .int .i64 (pk : Int)] 46)).drew w8.heap.size 46 [.int .u8 tn, .string Z, .int .i64 (x : Int), .int .i64 (pk : Int)] from Blk.new w8 46 [.int .u8 tn, .string Z, .int .i64 (x : Int), .int .i64 (pk : Int)])
          refine hK.out _ _ S1 (fun _ => ?_)
          clear hK K 
          obtain ⟨W8, hW8⟩ : ∃ W8, (w8.alloc (.cells #[.int .u8 tn, .string Z, .int .i64 (x : Int), .int .i64 (pk : Int)] 46)).drew = W8 := ⟨_, rfl⟩
          have HZ8 : Hid (W8.heap.size = w8.heap.size + 1) := Lib.hid (by rw [← hW8]; exact World.size_alloc w8 _)
          rw [hW8] at S1 BN0 ⊢
          clear hW8
          refine wpAnyH_ready (rs := [0]) (by kernel_rfl) (by simp) (AllReadyH.cons rfl (fun K hK => ?_) AllReadyH.nil)
          go_simp
          have S2 : Below w8.heap.size w8 (W8.alloc (.cells #[] 46)) := S1.alloc S1.size _
          have OA := Lib.hid (World.ownsRow_made (size := 4) (e := 46) (base := w8.heap.size) W8 #[] 0 S1.size (by simp [maxLen]) rfl)
          have BN := Lib.hid (BN0.out.alloc (.cells #[] 46))
          have HNE := Lib.hid (show some w8.heap.size ≠ (Value.slice (some ⟨W8.heap.size, 0, none⟩) 0 0).ownBlock from fun q => by have h : w8.heap.size = W8.heap.size := Option.some.inj q; have := HZ8.out; omega)
          refine hK.out _ _ S2 (fun _ => ?_)
          clear hK K BN0
          refine wpAnyH_ready (rs := [2]) (by kernel_rfl) (by simp) (AllReadyH.cons rfl (fun K hK => ?_) AllReadyH.nil)
          refine step_append_recs (by kernel_rfl) (.tmp 85) (.tmp 86) (by kernel_rfl) (by kernel_rfl) OA.out A L.length c L rfl (by kernel_rfl) _ (HL9.out _ S2) (by omega) S2.size L.length (by omega) ?_
          intro A2 c2 w11 O2 g2
          have S5 : Below w8.heap.size w8 w11 := S2.grown g2 S2.size (fun b hb => (OA.out.lt b hb).1)
          have HO3 := Lib.hid O2
          have RN : Hid (Row w11 w11.heap.size (some ⟨w8.heap.size, 0, none⟩) (([⟨oty, oL.flatten, x, pk⟩] : List RR).flatMap rr8)) := Lib.hid (by rw [HRR.out]; exact row_of_blk (BN.out.grown g2 HNE.out))
          refine hK.out _ _ S5 (fun _ => ?_)
          clear hK K O2 g2 OA BN
          refine wpAnyH_ready (rs := [9]) (by kernel_rfl) (by simp) (AllReadyH.cons rfl (fun K hK => ?_) AllReadyH.nil)
          refine step_append_recs (by kernel_rfl) (.tmp 87) (.tmp 93) (by kernel_rfl) (by kernel_rfl) HO3.out _ 1 1 [⟨oty, oL.flatten, x, pk⟩] rfl (by kernel_rfl) _ RN.out (by omega) S5.size (L.length + 1) rfl ?_
          intro A9 c9 w12 O9a g9
          have S9 : Below w8.heap.size w8 w12 := S5.grown g9 S5.size (fun b hb => (HO3.out.lt b hb).1)
          have O9 := Lib.hid O9a
          refine hK.out _ _ S9 (fun _ => ?_)
          clear hK K O9a g9 RN HO3
          refine wpAnyH_take (i := 12) (v := .slice A9 (L.length + 1) c9) rfl (by kernel_rfl) (by kernel_rfl) (by kernel_rfl) (fun _ _ _ h => h) (Or.inl ⟨by kernel_rfl, fun w _ => by go_simp⟩) S9 ?_
          refine wpAnyH_take (i := 13) (v := .int .i64 0) rfl (by kernel_rfl) (by kernel_rfl) (by kernel_rfl) (fun _ _ _ h => h) (Or.inl ⟨by kernel_rfl, fun w _ => by go_simp⟩) S9 ?_
          refine wpAnyH_take (i := 14) (v := .bool true) rfl (by kernel_rfl) (by kernel_rfl) (by kernel_rfl) (fun _ _ _ h => h) (Or.inl ⟨by kernel_rfl, fun w _ => by go_simp⟩) S9 ?_
          refine wpAnyH_done (by kernel_rfl) ?_ _
          go_simp
          go_wp2
          refine bodyPost_ret (results_tmp3 rfl _ _ _) rfl ?_
          exact PutR.more L6.out H1.out H2.out (by rw [HH.out, ← HLS.out]) C6.out (BF.out _ S9) HLB.out O9.out
      · rw [decide_eq_true hr] at K5
        have HH := Lib.hid hl'
        rw [HFR.out] at hf
        rw [HRO.out] at ho
        subst hf ho
        clear hr hl' pc1
        go_wp2_with (go_at_call 28; ((with_reducible refine K5.out.mono ?_); rintro e wj ⟨rfl, rfl⟩; clear K5))
        refine bodyPost_ret (results_tmp3 rfl _ _ _) rfl ?_
        exact PutR.same HL.out HLO.out (by decide) L6.out H1.out H2.out (by rw [HH.out]; exact HLS.out) C6.out B7.out
end
end Go.Proofs.YtdiocjneakfdgaaGreatDoor

/- The laws' holds: a log's segments, record by record, against a list. Condition: the log is there, its disk holds its records. -/
namespace Go.Proofs.YtdiocjneakfdgaaGreatDoor
open Go.RowKit
theorem own_blkS {w : World} {b n c s : Nat} {e : TypeId} {A : Option Addr} {xs : List Value} (h : w.ownsRow b e s (.slice A n c) n xs) (hn : 0 < n) : ∃ g E, A = some ⟨g, 0, none⟩ ∧ b ≤ g ∧ g < w.heap.size ∧ Blk w g e (xs ++ E) := by
  rcases h.2 with ⟨_, h0⟩ | ⟨g, cap, cur, hv, hg, hh, hc, hm, hs, ht⟩
  · omega
  · obtain ⟨rfl, _, rfl⟩ := Value.slice.inj hv
    have hlt : g < w.heap.size := by
      rcases Nat.lt_or_ge g w.heap.size with q | q
      · exact q
      · rw [Array.getElem?_eq_none q] at hh; cases hh
    refine ⟨g, cur.toList.drop (n * s), rfl, hg, hlt, ?_⟩
    rw [← ht, List.take_append_drop]
    exact hh
theorem plcs_at (x : Nat) : ∀ {ks : List Nat} {j k : Nat}, ks[j]? = some k → ∀ E, ((plcs x ks ++ E).drop (j * 2)).take 2 = plc x k
  | [], j, k, h => by simp at h
  | y :: ks, 0, k, h => fun E => by
    simp only [List.getElem?_cons_zero, Option.some.injEq] at h
    subst h
    rfl
  | y :: ks, j + 1, k, h => fun E => by
    have := plcs_at x (ks := ks) (j := j) (k := k) (by simpa using h) E
    rw [show (j + 1) * 2 = j * 2 + 2 by omega]
    exact this
theorem PlS.at_ {w : World} {B : Nat} {v : Value} {x : Nat} {ks : List Nat} (h : PlS w B v x ks) : ∃ A c, v = .slice A ks.length c ∧ ∀ j k, ks[j]? = some k → ∃ q cs, A = some ⟨q, 0, none⟩ ∧ q < w.heap.size ∧ Blk w q 44 cs ∧ (cs.drop (j * 2)).take 2 = plc x k := by
  obtain ⟨A, c, rfl, ho⟩ := h
  refine ⟨A, c, rfl, fun j k hj => ?_⟩
  obtain ⟨q, E, h1, _, h2, h3⟩ := own_blkS ho (by have := get_lt hj; omega)
  exact ⟨q, _, h1, h2, h3, plcs_at x hj E⟩
theorem PlsS.at_ {w : World} {B : Nat} {f : Nat → List Nat} : ∀ {os : List Nat} {rs : List Value}, PlsS w B f os rs → ∀ {k x : Nat} {r : Value}, os[k]? = some x → rs[k]? = some r → PlS w B r x (f x)
  | [], [], _, k, x, r, h, _ => by simp at h
  | [], _ :: _, h, _, _, _, _, _ => h.elim
  | _ :: _, [], h, _, _, _, _, _ => h.elim
  | y :: os, q :: rs, h, 0, x, r, h1, h2 => by
    simp only [List.getElem?_cons_zero, Option.some.injEq] at h1 h2
    subst h1 h2
    exact h.1
  | y :: os, q :: rs, h, k + 1, x, r, h1, h2 => h.2.at_ (by simpa using h1) (by simpa using h2)
/-- a slice of segments, read cell by cell, with their records' places -/
def SegQ (w : World) (B : Nat) (A : Option Addr) (Bs : List LB) (os : List Nat) (f : Nat → List Nat) : Prop := ∀ k x, os[k]? = some x → ∃ q cs r, A = some ⟨q, 0, none⟩ ∧ Blk w q 51 cs ∧ (cs.drop (k * 4)).take 4 = segRow Bs x r ∧ PlS w B r x (f x)
theorem SegQ.of {w : World} {B : Nat} {A : Option Addr} {c : Nat} {Bs : List LB} {os : List Nat} {rs : List Value} {f : Nat → List Nat} (h : w.ownsRow B 51 4 (.slice A os.length c) os.length (segRows Bs os rs)) (hp : PlsS w B f os rs) : SegQ w B A Bs os f := fun k x hk => by
  obtain ⟨q, E, rfl, _, _, hB⟩ := own_blkS h (by have := get_lt hk; omega)
  obtain ⟨r, h2, h3⟩ := segRows_at (Bs := Bs) hp.length hk
  exact ⟨q, _, r, rfl, hB, h3 E, hp.at_ hk h2⟩
theorem SegQ.after {w w' : World} {B : Nat} {A : Option Addr} {Bs : List LB} {os : List Nat} {f : Nat → List Nat} (h : SegQ w B A Bs os f) (hb : Below w.heap.size w w') : SegQ w' B A Bs os f := fun k x hk => by
  obtain ⟨q, cs, r, h1, h2, h3, h4⟩ := h k x hk
  exact ⟨q, cs, r, h1, h2.after hb, h3, h4.kept (only_of_below hb none) (fun r q => by cases q)⟩
theorem yields_str8 {ops : Array Oper} {o : Oper} {a : Act} {S : World → Prop} {v : Value} {l : List UInt8} (x : Operand) (ho : o.op = .convert 62 9 x) (hgd : Region.wanted o (yielded ops a.tmps) = true)
    (hx : a.eval x = v) (hS : ∀ w, S w → Bytes w w.heap.size v l) : YieldsIf Tryz.prog ops S o (.string ⟨l.toArray⟩) a :=
  .inl ⟨hgd, fun w hw => by
    unfold execOp
    simp only [ho, hx, Sem.run_bind, Sem.run_pure, Result.andThen_ok, str_of (hS w hw)]⟩
section
variable {w : World} {g h d t : Nat} {a : At} {X : DS} {N C : Nat} {Bs Bs0 : List LB} {num num0 : Nat} {os : List Nat}
set_option maxRecDepth 100000 in
set_option maxHeartbeats 16000000 in
/-- the log holds just its records -/
theorem holds8_any (l : Lg w g h d t a X N C Bs num) (ord : IsOrder Bs os) (o0 : LOk Bs0 os num0) (l0 : Bs0.length = N - 6) (has : LHas X Bs0) (A : Option Addr) (c lo : Nat) (hL : RecB w lo A (listOf Bs0 os)) (hlen : (listOf Bs0 os).length ≤ 1000) :
    Calls Tryz.prog 12 #[.pointer (some ⟨g, 0, none⟩), .slice A (listOf Bs0 os).length c, .pointer none] w fun e w' => e = .returned (.bool true) ∧ Below w.heap.size w w' := by
  have hol : os.length ≤ 100 := by have := order_len o0.ord l0; have := l.n; omega
  have KS := Lib.hid (segments_any l ord hol)
  have HL := Lib.hid hL
  have HLg := Lib.hid l
  obtain ⟨f, hf⟩ : ∃ f : Nat → List Nat, (fun x => recTo (fun k => (X.blk x).pg.getD k []) 8) = f := ⟨_, rfl⟩
  rw [hf] at KS
  have HX : Hid (∀ x ∈ os, x < N - 6 ∧ ∃ b, Bs0[x]? = some b ∧ f x = (List.range b.recs.length).map (fun j => 2 + j) ∧ (b.recs.length ≤ 6) ∧ ∀ j r, b.recs[j]? = some r → ∃ m, m ≤ 1 ∧ getM ((X.blk x).pg.getD (2 + j) []) = (r.1, r.2, m, 0)) := Lib.hid (fun x hx => by
    have hs := (o0.ord.mem x).1 hx
    have hlt := segAt_lt hs
    obtain ⟨b, hb⟩ : ∃ b, Bs0[x]? = some b := ⟨_, List.getElem?_eq_getElem hlt⟩
    rw [segAt_get hb] at hs
    have hok := o0.ok b (get_mem hb)
    have h6 := hok.recs
    refine ⟨by omega, b, hb, ?_, h6, fun j r hj => getM_has (has x b hb) hs hok hj⟩
    rw [← hf]
    have := recTo_has (has x b hb) hs hok 8 (Nat.le_refl _)
    rw [show min (8 - 2) b.recs.length = b.recs.length by omega] at this
    exact this)
  have HAT := Lib.hid (fun (q x j : Nat) (b : LB) (r : LRec) (hq : os[q]? = some x) (hb : Bs0[x]? = some b) (hj : b.recs[j]? = some r) => listOf_at hq hb hj)
  have HTK := Lib.hid (fun (q x : Nat) (b : LB) (hq : os[q]? = some x) (hb : Bs0[x]? = some b) => listOf_take hq hb)
  obtain ⟨M, hM⟩ : ∃ M : Nat → Nat, (fun q => (listOf Bs0 (os.take q)).length) = M := ⟨_, rfl⟩
  have HM0 : Hid (M 0 = 0) := Lib.hid (by rw [← hM]; rfl)
  have HMN : Hid (M os.length = (listOf Bs0 os).length) := Lib.hid (by rw [← hM]; show (listOf Bs0 (os.take os.length)).length = _; rw [List.take_length])
  have HTK2 : Hid (∀ (q x : Nat) (b : LB), os[q]? = some x → Bs0[x]? = some b → M (q + 1) = M q + b.recs.length) := Lib.hid (by rw [← hM]; exact HTK.out)
  have HAT2 : Hid (∀ (q x j : Nat) (b : LB) (r : LRec), os[q]? = some x → Bs0[x]? = some b → b.recs[j]? = some r → (listOf Bs0 os)[M q + j]? = some ⟨r.1, r.2, x, 2 + j⟩) := Lib.hid (by rw [← hM]; exact HAT.out)
  obtain ⟨L, hLL⟩ : ∃ L, listOf Bs0 os = L := ⟨_, rfl⟩
  rw [hLL] at HL hlen HMN HAT2 ⊢
  have HLEN := Lib.hid hlen
  clear l ord o0 l0 has hL hf hM hLL HAT HTK
  go_enter Tryz.func12, Tryz.ntmps12
  go_wp2_with (go_at_call 8; ((with_reducible refine KS.out.mono ?_); rintro e w1 ⟨A1, c1, rs1, rfl, ho1, hp1, b1⟩; have Q1 := Lib.hid (SegQ.of ho1 hp1); have B1 := Lib.hid b1; have L1 := Lib.hid (HLg.out.after b1); have R1 := Lib.hid (HL.out.after b1); clear KS b1 ho1 hp1))
  have m0 := HM0.out
  go_loopw [7, 9, 11, 12, 13, 14, 15, 19] (fun vn _ _ _ _ _ _ vi wr => ∃ q : Nat, vi = .int .i64 (q : Int) ∧ vn = .int .i64 (M q : Int) ∧ q ≤ os.length ∧ Hid (Below w1.heap.size w1 wr)) (fun _ _ _ _ _ _ _ vi _ => os.length - (intOf vi).toNat)
  case atStart => exact ⟨0, rfl, by rw [m0]; rfl, Nat.zero_le _, Lib.hid (Below.refl _ _)⟩
  case round =>
    obtain ⟨q, rfl, rfl, hq, HB⟩ := hrel
    clear m0
    by_cases hlq : q < os.length
    · obtain ⟨x, hx⟩ : ∃ x, os[q]? = some x := ⟨_, List.getElem?_eq_getElem hlq⟩
      obtain ⟨hxN, b, hb, hfx, h6, hrec⟩ := HX.out x (List.mem_of_getElem? hx)
      obtain ⟨p, cs, r, rfl, hB, h4, hpl⟩ := (Q1.out.after HB.out) q x hx
      obtain ⟨A2, c2, rfl, hat⟩ := hpl.at_
      have hfl : (f x).length = b.recs.length := by rw [hfx]; simp
      have HFX : Hid (∀ j, j < b.recs.length → (f x)[j]? = some (2 + j)) := Lib.hid (fun j hj => by rw [hfx, List.getElem?_map, List.getElem?_range hj]; rfl)
      have HTQ := Lib.hid (HTK2.out q x b hx hb)
      have HRQ : Hid (∀ j r, b.recs[j]? = some r → L[M q + j]? = some ⟨r.1, r.2, x, 2 + j⟩) := Lib.hid (fun j r hj => HAT2.out q x j b r hx hb hj)
      have HREC := Lib.hid hrec
      have HXN := Lib.hid hxN
      unfold segRow at h4
      rw [hfl] at h4
      obtain ⟨n6, hn6⟩ : ∃ n6, b.recs.length = n6 := ⟨_, rfl⟩
      have HN6 := Lib.hid hn6
      rw [hn6] at h4 h6 HTQ HFX
      obtain ⟨nx, hnx⟩ : ∃ nx, numAt Bs x = nx := ⟨_, rfl⟩
      obtain ⟨vx, hvx⟩ : ∃ vx, wearAt Bs x = vx := ⟨_, rfl⟩
      rw [hnx, hvx] at h4
      have HBB := Lib.hid hB
      have H4 := Lib.hid h4
      have HAT3 : Hid (∀ w', Below wr.heap.size wr w' → ∀ j k, (f x)[j]? = some k → ∃ q cs, A2 = some ⟨q, 0, none⟩ ∧ q < w'.heap.size ∧ Blk w' q 44 cs ∧ (cs.drop (j * 2)).take 2 = plc x k) := Lib.hid (fun w' hb j k hj => by
        obtain ⟨q, cs, e1, e2, e3, e4⟩ := hat j k hj
        exact ⟨q, cs, e1, Nat.lt_of_lt_of_le e2 hb.size, e3.after hb, e4⟩)
      have one4 : ∀ u ∈ [Value.int .i64 (x : Int), .int .u64 (nx : Int), .int .u64 (vx : Int), .slice A2 n6 c2], u.oneCell' = true := by simp [Value.oneCell']
      have zs := zeroSg
      clear hB h4 hpl hat hnx hvx hn6 hfl hfx hrec hx hb hxN
      go_wp2_with (first
        | (with_reducible refine wpl_seg_load aggSg sizeSg (.tmp 21) rfl rfl HBB.out (q * 4) _ H4.out rfl rfl ?_)
        | ((with_reducible refine wpl_seg_store sizeSg (.tmp 9) (.tmp 22) rfl rfl (Blk.new wr 51 [.int .i64 0, .int .u64 0, .int .u64 0, .slice none 0 0]) 0 [.int .i64 (x : Int), .int .u64 (nx : Int), .int .u64 (vx : Int), .slice A2 n6 c2] rfl (by simp) one4 rfl rfl [.int .i64 (x : Int), .int .u64 (nx : Int), .int .u64 (vx : Int), .slice A2 n6 c2] rfl ?_); intro w4 R4 g4 s4; have x3 := R4.cell 3; have B4 := Lib.hid (show Below wr.heap.size wr w4 from ((Below.refl _ _).alloc (Nat.le_refl _) _).grown g4 (by simp) (fun k e => by cases e; exact Nat.le_refl _)); clear R4 g4 s4))
      have HAT4 := Lib.hid (HAT3.out w4 B4.out)
      have B5 := Lib.hid (show Below w1.heap.size w1 w4 from HB.out.trans (B4.out.mono HB.out.size))
      clear x3 zs one4 H4 HBB HAT3 B4 HB
      go_loopw [7, 11, 12, 13, 14, 15, 26] (fun vn _ _ _ _ _ vj wq => ∃ j : Nat, vj = .int .i64 (j : Int) ∧ vn = .int .i64 ((M q + j : Nat) : Int) ∧ j ≤ n6 ∧ Hid (Below w1.heap.size w1 wq) ∧ Hid (Below w4.heap.size w4 wq)) (fun _ _ _ _ _ _ vj _ => n6 - (intOf vj).toNat)
      case atStart => exact ⟨0, rfl, rfl, Nat.zero_le _, B5, Lib.hid (Below.refl _ _)⟩
      case round =>
        obtain ⟨j, rfl, rfl, hj, HB6, HB7⟩ := hrel
        clear B5
        by_cases hlj : j < n6
        · obtain ⟨⟨rk, rb⟩, hr⟩ : ∃ r, b.recs[j]? = some r := ⟨_, List.getElem?_eq_getElem (by rw [HN6.out]; exact hlj)⟩
          obtain ⟨m, hm1, hgm⟩ := HREC.out j _ hr
          obtain ⟨p2, cs2, rfl, hp2, hB2, h22⟩ := HAT4.out j _ (HFX.out j hlj)
          obtain ⟨p3, cs3, rfl, z1, hB3, h34, h32, k0, k1, z2⟩ := (R1.out.after HB6.out).at_ (HRQ.out j _ hr)
          clear z1 z2
          have hll := get_lt (HRQ.out j _ hr)
          have HB2 := Lib.hid (hB2.after HB7.out)
          have HB3 := Lib.hid hB3
          have H22 := Lib.hid h22
          obtain ⟨n0, hn0⟩ : ∃ n0, M q + j = n0 := ⟨_, rfl⟩
          have HN0 := Lib.hid hn0
          rw [hn0] at hll h32 k0 k1 h34 ⊢
          have H32 := Lib.hid h32
          have HK0 := Lib.hid k0
          have HK1 := Lib.hid k1
          obtain ⟨s5, hs5⟩ : ∃ s5, wr.heap.size = s5 := ⟨_, rfl⟩
          have KG : Hid (∀ W, Below w1.heap.size w1 W → Calls Tryz.prog 30 #[.pointer (some ⟨g, 0, none⟩), .agg (plc x (2 + j)).toArray] W fun e w' => ∃ v, e = .returned (.tuple #[.int .u8 ((rk.toNat : Nat) : Int), v, .int .i64 (m : Int), .int .i64 0]) ∧ Bytes w' w'.heap.size v rb ∧ Below W.heap.size W w') := Lib.hid (fun W hW => by
            have := get_any (L1.out.after hW) HXN.out (show 2 + j < 8 by omega)
            rw [hgm] at this
            exact this)
          have R5 := (show Blk (wr.alloc (.cells #[.int .i64 0, .int .i64 0] 44)) wr.heap.size 44 (plc 0 0) from Blk.new wr 44 (plc 0 0))
          have b5 := Lib.hid ((Below.refl wr.heap.size wr).alloc (Nat.le_refl _) (.cells #[.int .i64 0, .int .i64 0] 44))
          rw [hs5] at R5
          clear hn0 hgm hr h22 h34 hB2 hB3 h32 k0 k1 HX HRQ HFX
          go_wp2_with (first
            | (with_reducible refine wpl_seg_load aggPl sizePl (.tmp 28) rfl rfl HB2.out (j * 2) (plc x (2 + j)) H22.out rfl rfl ?_)
            | (with_reducible refine wpl_seg_store sizePl (.tmp 11) (.tmp 29) rfl rfl R5 0 (plc x (2 + j)) rfl (Nat.le_refl _) (plc_one x (2 + j)) rfl rfl _ rfl ?_; intro w6 R6 g6 e6; have S6 := Lib.hid (show Below wr.heap.size wr w6 from b5.out.grown g6 (by simp) (fun k e => by cases e; omega)); have R6' := Lib.hid R6; clear R5 g6 e6 R6)
            | (with_reducible refine wpl_seg_load aggPl sizePl (.tmp 11) rfl rfl R6'.out 0 (plc x (2 + j)) rfl rfl rfl ?_)
            | (go_at_call 30; ((with_reducible refine (KG.out w6 (HB6.out.trans (S6.out.mono HB6.out.size))).mono ?_); rintro e w9 ⟨vb, rfl, hvb, b9⟩; have S9 := Lib.hid (S6.out.trans (b9.mono S6.out.size)); have R9 := Lib.hid (R6'.out.after b9); have HVB0 := Lib.hid hvb; clear KG b9 hvb R6')))
          have HB9 : Hid (∀ w', Below w9.heap.size w9 w' → Blk w' p3 46 cs3) := Lib.hid (fun w' hb => (HB3.out.after S9.out).after hb)
          have HR9 : Hid (∀ w', Below w9.heap.size w9 w' → Blk w' s5 44 (plc x (2 + j))) := Lib.hid (fun w' hb => R9.out.after hb)
          have HC0 : Hid (∀ w', Below w9.heap.size w9 w' → w'.cell? ⟨p3, n0 * 4, none⟩ = some (.int .u8 ((rk.toNat : Nat) : Int))) := Lib.hid (fun w' hb => ((HB9.out w' hb).cell _).trans HK0.out)
          have HC1 : Hid (∀ w', Below w9.heap.size w9 w' → w'.cell? ⟨p3, n0 * 4 + 1, none⟩ = some (.string ⟨rb.toArray⟩)) := Lib.hid (fun w' hb => ((HB9.out w' hb).cell _).trans HK1.out)
          have HVB : Hid (∀ w', Below w9.heap.size w9 w' → Bytes w' w'.heap.size vb rb) := Lib.hid (fun w' hb => (HVB0.out.below hb).more hb.size)
          have HPT := Lib.hid (decide_eq_true (show x = x ∧ 2 + j = 2 + j from ⟨rfl, rfl⟩))
          have dl : decide ((n0 : Int) < (L.length : Int)) = true := by simp; omega
          have dm : decide ((1 : Int) < (m : Int)) = false := by simp; omega
          obtain ⟨kn, hkn⟩ : ∃ kn : Int, ((rk.toNat : Nat) : Int) = kn := ⟨_, rfl⟩
          rw [hkn] at HC0 ⊢
          have S0 : Below w9.heap.size w9 w9.drew := (Below.refl _ _).drew
          clear hkn hs5
          refine wp_region_held_drew (S := (fun w' => Below w9.heap.size w9 w')) (by kernel_rfl) S0 (fun _ => ?_)
          refine wpAnyH_take (i := 0) (v := .int .i64 (n0 : Int)) rfl (by kernel_rfl) (by kernel_rfl) (by kernel_rfl) (fun _ _ _ h => h) (Or.inl ⟨by kernel_rfl, fun w _ => by go_simp⟩) S0 ?_
          refine wpAnyH_take (i := 1) (v := .slice (some ⟨p3, 0, none⟩) L.length c) rfl (by kernel_rfl) (by kernel_rfl) (by kernel_rfl) (fun _ _ _ h => h) (Or.inl ⟨by kernel_rfl, fun w _ => by go_simp⟩) S0 ?_
          refine wpAnyH_take (i := 2) (v := .int .i64 (L.length : Int)) rfl (by kernel_rfl) (by kernel_rfl) (by kernel_rfl) (fun _ _ _ h => h) (Or.inl ⟨by kernel_rfl, fun w _ => by go_simp⟩) S0 ?_
          refine wpAnyH_take (i := 3) (v := .bool true) rfl (by kernel_rfl) (by kernel_rfl) (by kernel_rfl) (fun _ _ _ h => h) (Or.inl ⟨by kernel_rfl, fun w _ => by go_simp⟩) S0 ?_
          refine wpAnyH_take (i := 4) (v := .bool true) rfl (by kernel_rfl) (by kernel_rfl) (by kernel_rfl) (fun _ _ _ h => h) (Or.inl ⟨by kernel_rfl, fun w _ => by go_simp⟩) S0 ?_
          refine wpAnyH_take (i := 5) (v := .slice (some ⟨p3, 0, none⟩) L.length c) rfl (by kernel_rfl) (by kernel_rfl) (by kernel_rfl) (fun _ _ _ h => h) (Or.inl ⟨by kernel_rfl, fun w _ => by go_simp⟩) S0 ?_
          refine wpAnyH_take (i := 6) (v := .int .i64 (n0 : Int)) rfl (by kernel_rfl) (by kernel_rfl) (by kernel_rfl) (fun _ _ _ h => h) (Or.inl ⟨by kernel_rfl, fun w _ => by go_simp⟩) S0 ?_
          refine wpAnyH_take (i := 7) (v := .pointer (some ⟨p3, n0 * 4, none⟩)) rfl (by kernel_rfl) (by kernel_rfl) (by kernel_rfl) (fun _ _ _ h => h) (yields_rec (c := c) (.tmp 43) (.tmp 44) (by kernel_rfl) (by kernel_rfl) (by kernel_rfl) (by kernel_rfl) hll) S0 ?_
          refine wpAnyH_take (i := 8) (v := .pointer (some ⟨p3, n0 * 4 + 2, none⟩)) rfl (by kernel_rfl) (by kernel_rfl) (by kernel_rfl) (fun _ _ _ h => h) (Or.inl ⟨by kernel_rfl, fun w _ => by go_simp⟩) S0 ?_
          refine wpAnyH_take (i := 9) (v := .agg (plc x (2 + j)).toArray) rfl (by kernel_rfl) (by kernel_rfl) (by kernel_rfl) (fun _ _ _ h => h) (yields_seg aggPl sizePl (.tmp 46) (by kernel_rfl) (by kernel_rfl) (by kernel_rfl) (g := p3) (i := n0 * 4 + 2) HB9.out H32.out rfl) S0 ?_
          refine wpAnyH_take (i := 10) (v := .agg (plc x (2 + j)).toArray) rfl (by kernel_rfl) (by kernel_rfl) (by kernel_rfl) (fun _ _ _ h => h) (yields_seg aggPl sizePl (.tmp 11) (by kernel_rfl) (by kernel_rfl) (by kernel_rfl) (g := s5) (i := 0) HR9.out rfl rfl) S0 ?_
          refine wpAnyH_take (i := 11) (v := .bool true) rfl (by kernel_rfl) (by kernel_rfl) (by kernel_rfl) (fun _ _ _ h => h) (yields_pleq (.tmp 47) (.tmp 48) (by kernel_rfl) (by kernel_rfl) (by kernel_rfl) (by kernel_rfl) true HPT.out) S0 ?_
          refine wpAnyH_take (i := 12) (v := .bool true) rfl (by kernel_rfl) (by kernel_rfl) (by kernel_rfl) (fun _ _ _ h => h) (Or.inl ⟨by kernel_rfl, fun w _ => by go_simp⟩) S0 ?_
          refine wpAnyH_done (by kernel_rfl) ?_ _
          go_simp
          go_wp2_with fail
          have S1 : Below w9.heap.size w9 w9.drew.drew := (Below.refl _ _).drew.drew
          refine wp_region_held_drew (S := (fun w' => Below w9.heap.size w9 w')) (by kernel_rfl) S1 (fun _ => ?_)
          refine wpAnyH_take (i := 0) (v := .int .i64 0) rfl (by kernel_rfl) (by kernel_rfl) (by kernel_rfl) (fun _ _ _ h => h) (Or.inl ⟨by kernel_rfl, fun w _ => by go_simp⟩) S1 ?_
          refine wpAnyH_take (i := 1) (v := .bool false) rfl (by kernel_rfl) (by kernel_rfl) (by kernel_rfl) (fun _ _ _ h => h) (Or.inl ⟨by kernel_rfl, fun w _ => by go_simp⟩) S1 ?_
          refine wpAnyH_take (i := 2) (v := .bool false) rfl (by kernel_rfl) (by kernel_rfl) (by kernel_rfl) (fun _ _ _ h => h) (Or.inl ⟨by kernel_rfl, fun w _ => by go_simp⟩) S1 ?_
          refine wpAnyH_take (i := 3) (v := .int .u8 kn) rfl (by kernel_rfl) (by kernel_rfl) (by kernel_rfl) (fun _ _ _ h => h) (Or.inl ⟨by kernel_rfl, fun w _ => by go_simp⟩) S1 ?_
          refine wpAnyH_take (i := 4) (v := .slice (some ⟨p3, 0, none⟩) L.length c) rfl (by kernel_rfl) (by kernel_rfl) (by kernel_rfl) (fun _ _ _ h => h) (Or.inl ⟨by kernel_rfl, fun w _ => by go_simp⟩) S1 ?_
          refine wpAnyH_take (i := 5) (v := .int .i64 (n0 : Int)) rfl (by kernel_rfl) (by kernel_rfl) (by kernel_rfl) (fun _ _ _ h => h) (Or.inl ⟨by kernel_rfl, fun w _ => by go_simp⟩) S1 ?_
          refine wpAnyH_take (i := 6) (v := .pointer (some ⟨p3, n0 * 4, none⟩)) rfl (by kernel_rfl) (by kernel_rfl) (by kernel_rfl) (fun _ _ _ h => h) (yields_rec (c := c) (.tmp 55) (.tmp 56) (by kernel_rfl) (by kernel_rfl) (by kernel_rfl) (by kernel_rfl) hll) S1 ?_
          refine wpAnyH_take (i := 7) (v := .pointer (some ⟨p3, n0 * 4, none⟩)) rfl (by kernel_rfl) (by kernel_rfl) (by kernel_rfl) (fun _ _ _ h => h) (Or.inl ⟨by kernel_rfl, fun w _ => by go_simp⟩) S1 ?_
          refine wpAnyH_take (i := 8) (v := .int .u8 kn) rfl (by kernel_rfl) (by kernel_rfl) (by kernel_rfl) (fun _ _ _ h => h) (yields_one (ty := 5) (fun w => by kernel_rfl) (.tmp 58) (by kernel_rfl) (by kernel_rfl) (by kernel_rfl) HC0.out) S1 ?_
          refine wpAnyH_take (i := 9) (v := .bool false) rfl (by kernel_rfl) (by kernel_rfl) (by kernel_rfl) (fun _ _ _ h => h) (Or.inl ⟨by kernel_rfl, fun w _ => by go_simp⟩) S1 ?_
          refine wpAnyH_take (i := 10) (v := .bool false) rfl (by kernel_rfl) (by kernel_rfl) (by kernel_rfl) (fun _ _ _ h => h) (Or.inl ⟨by kernel_rfl, fun w _ => by go_simp⟩) S1 ?_
          refine wpAnyH_take (i := 11) (v := .bool false) rfl (by kernel_rfl) (by kernel_rfl) (by kernel_rfl) (fun _ _ _ h => h) (Or.inl ⟨by kernel_rfl, fun w _ => by go_simp⟩) S1 ?_
          refine wpAnyH_take (i := 12) (v := vb) rfl (by kernel_rfl) (by kernel_rfl) (by kernel_rfl) (fun _ _ _ h => h) (Or.inl ⟨by kernel_rfl, fun w _ => by go_simp⟩) S1 ?_
          refine wpAnyH_take (i := 13) (v := .string ⟨rb.toArray⟩) rfl (by kernel_rfl) (by kernel_rfl) (by kernel_rfl) (fun _ _ _ h => h) (yields_str8 (v := vb) (.tmp 63) (by kernel_rfl) (by kernel_rfl) (by kernel_rfl) HVB.out) S1 ?_
          refine wpAnyH_take (i := 14) (v := .slice (some ⟨p3, 0, none⟩) L.length c) rfl (by kernel_rfl) (by kernel_rfl) (by kernel_rfl) (fun _ _ _ h => h) (Or.inl ⟨by kernel_rfl, fun w _ => by go_simp⟩) S1 ?_
          refine wpAnyH_take (i := 15) (v := .int .i64 (n0 : Int)) rfl (by kernel_rfl) (by kernel_rfl) (by kernel_rfl) (fun _ _ _ h => h) (Or.inl ⟨by kernel_rfl, fun w _ => by go_simp⟩) S1 ?_
          refine wpAnyH_take (i := 16) (v := .pointer (some ⟨p3, n0 * 4, none⟩)) rfl (by kernel_rfl) (by kernel_rfl) (by kernel_rfl) (fun _ _ _ h => h) (yields_rec (c := c) (.tmp 65) (.tmp 66) (by kernel_rfl) (by kernel_rfl) (by kernel_rfl) (by kernel_rfl) hll) S1 ?_
          refine wpAnyH_take (i := 17) (v := .pointer (some ⟨p3, n0 * 4 + 1, none⟩)) rfl (by kernel_rfl) (by kernel_rfl) (by kernel_rfl) (fun _ _ _ h => h) (Or.inl ⟨by kernel_rfl, fun w _ => by go_simp⟩) S1 ?_
          refine wpAnyH_take (i := 18) (v := .string ⟨rb.toArray⟩) rfl (by kernel_rfl) (by kernel_rfl) (by kernel_rfl) (fun _ _ _ h => h) (yields_one (ty := 9) (fun w => by kernel_rfl) (.tmp 68) (by kernel_rfl) (by kernel_rfl) (by kernel_rfl) HC1.out) S1 ?_
          refine wpAnyH_take (i := 19) (v := .bool false) rfl (by kernel_rfl) (by kernel_rfl) (by kernel_rfl) (fun _ _ _ h => h) (Or.inl ⟨by kernel_rfl, fun w _ => by go_simp⟩) S1 ?_
          refine wpAnyH_take (i := 20) (v := .bool false) rfl (by kernel_rfl) (by kernel_rfl) (by kernel_rfl) (fun _ _ _ h => h) (Or.inl ⟨by kernel_rfl, fun w _ => by go_simp⟩) S1 ?_
          refine wpAnyH_take (i := 21) (v := .bool false) rfl (by kernel_rfl) (by kernel_rfl) (by kernel_rfl) (fun _ _ _ h => h) (Or.inl ⟨by kernel_rfl, fun w _ => by go_simp⟩) S1 ?_
          refine wpAnyH_take (i := 22) (v := .int .i64 (m : Int)) rfl (by kernel_rfl) (by kernel_rfl) (by kernel_rfl) (fun _ _ _ h => h) (Or.inl ⟨by kernel_rfl, fun w _ => by go_simp⟩) S1 ?_
          refine wpAnyH_take (i := 23) (v := .bool false) rfl (by kernel_rfl) (by kernel_rfl) (by kernel_rfl) (fun _ _ _ h => h) (Or.inl ⟨by kernel_rfl, fun w _ => by go_simp⟩) S1 ?_
          refine wpAnyH_take (i := 24) (v := .bool false) rfl (by kernel_rfl) (by kernel_rfl) (by kernel_rfl) (fun _ _ _ h => h) (Or.inl ⟨by kernel_rfl, fun w _ => by go_simp⟩) S1 ?_
          refine wpAnyH_done (by kernel_rfl) ?_ _
          go_simp
          go_wp2_with fail
          go_roundw
          case rel => exact ⟨j + 1, by go_num, by rw [← HN0.out]; go_num, by omega, Lib.hid ((HB6.out.trans (S9.out.mono HB6.out.size)).trans (S1.mono (by have := HB6.out.size; have := S9.out.size; omega))), Lib.hid ((HB7.out.trans (S9.out.mono HB7.out.size)).trans (S1.mono (by have := HB7.out.size; have := S9.out.size; omega)))⟩
          case measure => simp [intOf]; omega
        · obtain rfl : j = n6 := by omega
          have htq := HTQ.out
          go_wp2
          go_roundw
          case rel => exact ⟨q + 1, by go_num, by rw [htq], by omega, HB6⟩
          case measure => simp [intOf]; omega
    · obtain rfl : q = os.length := by omega
      have hmn := HMN.out
      rw [hmn]
      go_wp2
      go_ret
      exact ⟨by simp, B1.out.trans (HB.out.mono B1.out.size)⟩
end
end Go.Proofs.YtdiocjneakfdgaaGreatDoor

/- What LogPlays keeps of a log: failures told to its chip; its state at a round's start. Condition: no failure was told before. -/
namespace Go.Proofs.YtdiocjneakfdgaaGreatDoor
open Go.RowKit
theorem freeTo_opened8 (Bs : List LB) : ∀ k, freeTo (Bs.map LB.opened) k = freeTo Bs k
  | 0 => rfl
  | k + 1 => by
    show freeTo (Bs.map LB.opened) k + _ = freeTo Bs k + _
    rw [freeTo_opened8 Bs k]
    have : segAt (Bs.map LB.opened) k = segAt Bs k := by
      unfold segAt
      rw [List.getElem?_map]
      cases Bs[k]? with
      | none => rfl
      | some b => exact (opened_is b).1
    rw [this]
section
variable {w : World} {g h d t : Nat} {a : At} {X : DS} {N C : Nat} {Bs : List LB} {num : Nat} {os : List Nat}
/-- Programs of a log's chip are told to fail -/
theorem LogS.fail8 (l : LogS w g h d t a X N C Bs os num) (m : a.mp = none ∧ a.me = none) (zs : List Int) (v : Value) (hlen : zs.length ≤ 3) (hv : Nums w w.heap.size .i64 v zs) :
    Calls Tryz.prog 7 #[.pointer (some ⟨a.c, 0, none⟩), .bool true, v] w fun er w' => er = .returned (.tuple #[]) ∧ ∃ (b : Nat) (X' : DS), w.heap.size ≤ b ∧ LogS w' g h d t (a.told true b) X' N C Bs os num ∧ Chg w w' (fun j => j = a.c) := by
  obtain ⟨f, e, D, hl⟩ := id l.lg.dk
  obtain ⟨rfl, rfl, hlay, _⟩ := hl m.1 m.2
  have hN := l.lg.n
  have h0 : X.l.losses = 0 := by rw [hlay]; exact (freshAll N hN).2
  refine (D.fail true zs v (by omega) hv (by rw [h0, if_pos rfl, if_pos rfl]; omega)).mono ?_
  rintro er w' ⟨rfl, b, hb, D', hc⟩
  have hac : a.disk t d a.c := .inl (.inl (.inl rfl))
  have hgl : g < w.heap.size := l.lg.gb.lt
  have hhl : h < w.heap.size := l.lg.hb.lt
  have hgc : g ≠ a.c := fun q => l.lg.gd (by rw [q]; exact hac)
  have hhc : h ≠ a.c := fun q => l.lg.hd (by rw [q]; exact hac)
  have hdk : ∀ k, k < w.heap.size → (a.told true b).disk t d k → a.disk t d k := fun k hk q => by
    rcases q with q | q | q
    · rcases At.told_all q with q | q
      · exact .inl q
      · omega
    · exact .inr (.inl q)
    · exact .inr (.inr q)
  refine ⟨rfl, b, _, hb, ⟨⟨l.lg.gb.chg hc hgc, l.lg.hb.chg hc hhc, ⟨_, _, D', fun m1 _ => by cases m1⟩, l.lg.len, l.lg.gh, fun q => l.lg.gd (hdk g hgl q), fun q => l.lg.hd (hdk h hhl q), l.lg.gt, l.lg.ht⟩, l.o, fun y bb hy => ?_, l.clr⟩, hc⟩
  have hbk : (DS.mk (X.S.told true zs) X.s X.l X.u).blk y = X.blk y := by
    unfold DS.blk Ch.bk
    rw [told_bs]
  rw [hbk]
  exact l.has y bb hy
/-- the state at a round's start -/
def Play (w0 w : World) (g h d t : Nat) (a : At) (N lo i : Nat) (A : Option Addr) (L : List RR) : Prop :=
  ∃ X Bs os num, LogS w g h d t a X N (401 + 10 * i) Bs os num ∧ num ≤ i ∧ WearLe Bs (1 + i) ∧ L = listOf Bs os ∧ RecB w lo A L ∧ L.length ≤ i ∧ lo ≤ w.heap.size ∧ Below w0.heap.size w0 w
/-- nothing new was below -/
theorem play_below {w0 w w' : World} (hb : Below w0.heap.size w0 w) (hc : Chg w w' (a.log t d g h)) (hf : ∀ k, a.log t d g h k → w0.heap.size ≤ k) : Below w0.heap.size w0 w' := hb.trans (hc.below hf hb.size)
theorem WearLe.more {Bs : List LB} {n m : Nat} (h : WearLe Bs n) (hm : n ≤ m) : WearLe Bs m := fun b hb => Nat.le_trans (h b hb) hm
theorem Play.put {w0 w4 w5 : World} {lo i num0 : Nat} {AP : Option Addr} {L LP : List RR} (hput : Put8 w4 w5 g h d t a N (401 + 10 * i) lo L.length num0 (1 + i) AP LP) (hn : num0 ≤ i) (hlen : L.length ≤ i) (hb : Below w0.heap.size w0 w4) (hlo : lo ≤ w4.heap.size) (hf : ∀ k, a.log t d g h k → w0.heap.size ≤ k) : Play w0 w5 g h d t a N lo (i + 1) AP LP := by
  obtain ⟨X', Bs', os', num', l', h1, h2, h3, h4, h5, h6⟩ := hput
  exact ⟨X', Bs', os', num', l'.more (by omega), by omega, h2.more (by omega), h3, h4, by omega, Nat.le_trans hlo h6.size, play_below hb h6 hf⟩
theorem Play.drop {w0 w6 w8 : World} {lo i num0 : Nat} {AW : Option Addr} {L' : List RR} {X' : DS} {Bs' : List LB} {os' : List Nat} (l' : LogS w6 g h d t a X' N (401 + 10 * i + 10) Bs' os' num0) (hn : num0 ≤ i) (hw : WearLe Bs' (1 + i + 1)) (hl : L' = listOf Bs' os') (hr : RecB w8 w6.heap.size AW L') (hlen : L'.length ≤ i) (hlo : lo ≤ w6.heap.size) (hb : Below w0.heap.size w0 w6) (hbw : Below w6.heap.size w6 w8) : Play w0 w8 g h d t a N lo (i + 1) AW L' :=
  ⟨X', Bs', os', num0, (l'.more (by omega)).after hbw, by omega, hw.more (by omega), hl, hr.lower hlo, by omega, Nat.le_trans hlo hbw.size, hb.trans (hbw.mono hb.size)⟩
theorem Play.after {w0 w w' : World} {lo i : Nat} {A : Option Addr} {L : List RR} (hp : Play w0 w g h d t a N lo i A L) (hb : Below w.heap.size w w') : Play w0 w' g h d t a N lo i A L := by
  obtain ⟨X, Bs, os, num, h1, h2, h3, h4, h5, h6, h7, h8⟩ := hp
  exact ⟨X, Bs, os, num, h1.after hb, h2, h3, h4, h5.after hb, h6, Nat.le_trans h7 hb.size, h8.trans (hb.mono h8.size)⟩
/-- is there such a segment among the first k? -/
def thereTo (os : List Nat) (z : Int) : Nat → Bool
  | 0 => false
  | k + 1 => thereTo os z k || (os[k]?.map (fun (x : Nat) => decide ((x : Int) = z))).getD false
theorem thereTo_step {os : List Nat} {z : Int} {k x : Nat} (h : os[k]? = some x) : thereTo os z (k + 1) = (thereTo os z k || decide ((x : Int) = z)) := by
  show (thereTo os z k || _) = _
  rw [h]
  rfl
theorem thereTo_iff {os : List Nat} {z : Int} : ∀ k, thereTo os z k = true ↔ ∃ j, j < k ∧ ∃ x, os[j]? = some x ∧ (x : Int) = z
  | 0 => by simp [thereTo]
  | k + 1 => by
    show (thereTo os z k || _) = true ↔ _
    rw [Bool.or_eq_true, thereTo_iff k]
    constructor
    · rintro (⟨j, hj, q⟩ | q)
      · exact ⟨j, by omega, q⟩
      · cases e : os[k]? with
        | none => rw [e] at q; cases q
        | some x => rw [e] at q; exact ⟨k, by omega, x, e, of_decide_eq_true q⟩
    · rintro ⟨j, hj, x, hx, q⟩
      by_cases e : j = k
      · subst e
        exact .inr (by rw [hx]; exact decide_eq_true q)
      · exact .inl ⟨j, by omega, x, hx, q⟩
theorem thereTo_all {os : List Nat} {z : Int} : thereTo os z os.length = decide (∃ y ∈ os, ((y : Nat) : Int) = z) := by
  rw [Bool.eq_iff_iff, decide_eq_true_eq, thereTo_iff]
  constructor
  · rintro ⟨j, _, x, hx, q⟩; exact ⟨x, List.mem_of_getElem? hx, q⟩
  · rintro ⟨x, hx, q⟩
    obtain ⟨j, hj⟩ := List.mem_iff_getElem?.1 hx
    exact ⟨j, get_lt hj, x, hj, q⟩
end
end Go.Proofs.YtdiocjneakfdgaaGreatDoor

/- The walk of LogPlays: it answers true, and changes nothing that was there. Condition: the table of the check sum holds its sixteen numbers. -/
namespace Go.Proofs.YtdiocjneakfdgaaGreatDoor
open Go.RowKit
theorem intTys8 : OneCell Tryz.prog 23 3 (.int .i64 0) 8 := OneCell.mk' Tryz.underlying23 (by kernel_rfl) (by decide)
theorem nums_at8 {w w' : World} {B c : Nat} {A : Option Addr} {zs : List Int} (h : Nums w B .i64 (.slice A zs.length c) zs) {q : Nat} (hq : q < zs.length) (hb : Below B w w') : ∃ p, A = some p ∧ ∃ z, w'.cell? (p.add q) = some (.int .i64 z) := by
  obtain ⟨A', cap', ev, _, _, hrow, _⟩ := h
  obtain ⟨rfl, _, rfl⟩ := Value.slice.inj ev
  obtain ⟨p2, rfl, hab, hcell⟩ := hrow.at_ (k := q) (by simpa using hq)
  refine ⟨p2, rfl, zs[q], ?_⟩
  have h1 := (hb.cell (p := p2.add q) (by rw [add_block]; exact hab)).trans hcell
  rw [List.getElem_map] at h1
  exact h1
set_option maxRecDepth 100000 in
set_option maxHeartbeats 32000000 in
theorem logPlays_any (n : Int) (vs vf : Value) (w : World) (ht : Tab w) (_ : (Lit.int .i64 n).wf = true) (hs : ∃ os, Script8 w w.heap.size vs os) (hz : ∃ zs, Nums w w.heap.size .i64 vf zs) :
    Calls Tryz.prog 3 #[.int .i64 n, vs, vf] w fun e w' => e = .returned (.bool true) ∧ Below w.heap.size w w' := by
  obtain ⟨S, hS⟩ := hs
  obtain ⟨zs, hv⟩ := hz
  obtain ⟨As, cs, rfl, _, _, _, _⟩ := id hS
  obtain ⟨A, cap, rfl, _, _, _, _⟩ := id hv
  have HS := Lib.hid hS
  have HV := Lib.hid hv
  have KS := Lib.hid (speaks8_any w ht)
  have HT := Lib.hid ht
  clear ht hv hS
  go_enter Tryz.func3, Tryz.ntmps3
  go_wp2_with (go_at_call 4; ((with_reducible refine KS.out.mono ?_); rintro e w1 ⟨rfl, b1⟩; have B1 := Lib.hid b1; clear KS b1))
  ((with_reducible refine (great8_any As cs S w1 w HS.out B1.out).mono ?_); rintro e w2 ⟨gb, rfl, hg, b2⟩)
  have B2 := Lib.hid b2
  clear b2 B1
  cases gb with
  | true =>
    go_wp2
    go_ret
    exact ⟨rfl, B2.out⟩
  | false =>
    obtain ⟨h90, hall⟩ := hg rfl
    have HALL := Lib.hid hall
    have H90 := Lib.hid h90
    clear hg hall h90
    by_cases h3 : 3 < zs.length
    · have d3 : decide ((3 : Int) < (zs.length : Int)) = true := by simp; omega
      go_wp2
      go_ret
      exact ⟨rfl, B2.out⟩
    have d3 : decide ((3 : Int) < (zs.length : Int)) = false := by simp; omega
    by_cases hn : 16 ≤ n ∧ n ≤ 40
    case neg =>
      have HNN := Lib.hid (show n < 16 ∨ 40 < n by omega)
      have KL := Lib.hid (laid8_no n HNN.out w2)
      clear hn
      by_cases h16 : n < 16
      · have d16 : decide (n < 16) = true := by simpa using h16
        go_wp2_with (go_at_call 6; ((with_reducible refine KL.out.mono ?_); rintro e w3 ⟨rfl, b3⟩; have B3 := Lib.hid (B2.out.trans (b3.mono B2.out.size)); clear KL b3))
        go_ret
        exact ⟨rfl, B3.out⟩
      · have d16 : decide (n < 16) = false := by simpa using h16
        have d40 : decide ((40 : Int) < n) = true := by have := HNN.out; simp; omega
        go_wp2_with (go_at_call 6; ((with_reducible refine KL.out.mono ?_); rintro e w3 ⟨rfl, b3⟩; have B3 := Lib.hid (B2.out.trans (b3.mono B2.out.size)); clear KL b3))
        go_ret
        exact ⟨rfl, B3.out⟩
    obtain ⟨N, rfl⟩ : ∃ N : Nat, n = (N : Int) := ⟨n.toNat, by omega⟩
    have hN : 16 ≤ N ∧ N ≤ 40 := by omega
    have KL := Lib.hid (laid8_any N hN w2 (HT.out.below B2.out HT.out.lt))
    clear hn hN
    go_wp2_with (go_at_call 6; ((with_reducible refine KL.out.mono ?_); rintro e w3 ⟨g, h, d, t, a, X, rfl, hB⟩; have HL1 := Lib.hid (hB.log (fun _ => (20, []))); have HM := Lib.hid hB.told; have HF := Lib.hid (show ∀ j, a.log t d g h j → w.heap.size ≤ j from fun j hj => Nat.le_trans B2.out.size (hB.far j hj)); have B3 := Lib.hid (B2.out.trans (hB.below.mono B2.out.size)); clear hB KL))
    have b4 := Lib.hid ((Below.refl w3.heap.size w3).alloc (Nat.le_refl _) (.cells #[] 3))
    have O4 := Lib.hid (World.ownsRow_made (size := 1) (e := 3) (base := w3.heap.size) w3 #[] 0 (Nat.le_refl _) (by simp [maxLen]) rfl)
    go_loopw [8, 9, 10, 43] (fun vo _ _ vi wr => ∃ (i c' : Nat) (A' : Option Addr) (zl : List Int), vi = .int .i64 (i : Int) ∧ vo = .slice A' i c' ∧ i ≤ zs.length ∧ Hid (zl.length = i) ∧ Hid (∀ z ∈ zl, (Lit.int .i64 z).wf = true) ∧ Hid (wr.ownsRow w3.heap.size 3 1 (.slice A' i c') i (zl.map (Value.int .i64))) ∧ Hid (Below w3.heap.size w3 wr)) (fun _ _ _ vi _ => zs.length - (intOf vi).toNat)
    case atStart => exact ⟨0, 0, _, [], rfl, rfl, Nat.zero_le _, Lib.hid rfl, Lib.hid (fun z h => by cases h), O4, b4⟩
    case round =>
      obtain ⟨i, c', A', zl, rfl, rfl, hi, HLN, HW, HO, HB⟩ := hrel
      clear b4 O4
      by_cases hlt : i < zs.length
      · have hB5 := Lib.hid (show Below w.heap.size w wr from B3.out.trans (HB.out.mono B3.out.size))
        obtain ⟨p, rfl, z, hcell⟩ := nums_at8 HV.out hlt hB5.out
        have hO6 := Lib.hid (HO.out.alloc (.cells #[.int .i64 (RowKit.wrap64 (10 * (i : Int) + bits .and .i64 z 7))] 3))
        have R6 := Lib.hid (Row.new (B := wr.heap.size + 1) wr #[.int .i64 (RowKit.wrap64 (10 * (i : Int) + bits .and .i64 z 7))] 3 (0, 0) wr.heap.size rfl (by omega))
        have hz6 := Lib.hid (show w3.heap.size ≤ (wr.alloc (.cells #[.int .i64 (RowKit.wrap64 (10 * (i : Int) + bits .and .i64 z 7))] 3)).heap.size from Nat.le_trans HB.out.size (by simp))
        go_wp2_with (at_builtin; refine wpl_append_vals intTys8 rfl (.tmp 48) (.tmp 54) rfl i rfl hO6.out _ _ _ _ 1 rfl rfl R6.out (by intro u hu; simp at hu; subst hu; rfl) (by omega) (by simp only [maxLen]; omega) hz6.out (i + 1) rfl ?_; intro A8 c8 w8 O8 g8 h8; have HO8 := Lib.hid O8; have B8 := Lib.hid ((HB.out.alloc HB.out.size (.cells #[.int .i64 (RowKit.wrap64 (10 * (i : Int) + bits .and .i64 z 7))] 3)).grown g8 hz6.out (fun b hb => (HO.out.lt b hb).1)); clear O8 g8 h8)
        go_roundw
        case rel => exact ⟨i + 1, c8, A8, zl ++ [RowKit.wrap64 (10 * (i : Int) + bits .and .i64 z 7)], by go_num, rfl, by omega, Lib.hid (by rw [List.length_append, HLN.out]; rfl), Lib.hid (fun y hy => by
          rcases List.mem_append.1 hy with q | q
          · exact HW.out y q
          · rw [List.mem_singleton.1 q]; exact RowKit.wrap64_wf _), Lib.hid (by rw [List.map_append]; exact HO8.out), B8⟩
        case measure => simp [intOf]; omega
      · obtain rfl : i = zs.length := by omega
        have B5 := Lib.hid (show Below w.heap.size w wr from B3.out.trans (HB.out.mono B3.out.size))
        have HNM : Hid (Nums wr wr.heap.size .i64 (.slice A' zs.length c') zl) := Lib.hid (by
          obtain ⟨A2, c2, e, h1, h2⟩ := ownsRow_shape HO.out
          obtain ⟨rfl, _, rfl⟩ := Value.slice.inj e
          exact ⟨A', c', by rw [HLN.out], by rw [HLN.out]; exact h1, h2, ownsRow_row HO.out, HW.out⟩)
        have L5 := Lib.hid (HL1.out.after HB.out)
        have KFL := Lib.hid (L5.out.fail8 HM.out zl _ (by rw [HLN.out]; omega) HNM.out)
        have c0 := L5.out.lg.cells.1
        have c1 := L5.out.lg.dk.count.1
        have hag : a.log t d g h a.c := .inl (.inl (.inl (.inl rfl)))
        have HAC := Lib.hid (HF.out _ hag)
        clear hag HL1 B3 HNM HO HW HLN hlt hi HB h3 d3
        go_wp2_with (go_at_call 7; ((with_reducible refine KFL.out.mono ?_); rintro e w6 ⟨rfl, b, X6, hb, l6, c6⟩; have L6 := Lib.hid l6; have HBB := Lib.hid (show w.heap.size ≤ b from Nat.le_trans B5.out.size hb); have B6 := Lib.hid (B5.out.trans (c6.below (B := w.heap.size) (fun k e => by rw [e]; exact HAC.out) B5.out.size)); clear l6 hb c6 KFL c0 c1))
        obtain ⟨a', ha'⟩ : ∃ a', a.told true b = a' := ⟨_, rfl⟩
        have HF6 : Hid (∀ j, a'.log t d g h j → w.heap.size ≤ j) := Lib.hid (fun j hj => by
          rw [← ha'] at hj
          rcases hj with (q | q | q) | q | q
          · rcases At.told_all q with q | q
            · exact HF.out j (.inl (.inl q))
            · rw [q]; exact HBB.out
          · exact HF.out j (.inl (.inr (.inl q)))
          · exact HF.out j (.inl (.inr (.inr q)))
          · exact HF.out j (.inr (.inl q))
          · exact HF.out j (.inr (.inr q)))
        rw [ha'] at L6
        obtain ⟨lo, hlo⟩ : ∃ lo, w6.heap.size = lo := ⟨_, rfl⟩
        have HLT : Hid (∀ k, a'.log t d g h k → k < lo) := Lib.hid (fun k hk => by rw [← hlo]; exact L6.out.lg.lt k hk)
        have HLW : Hid (w.heap.size ≤ lo) := Lib.hid (by rw [← hlo]; exact B6.out.size)
        have HLO : Hid (lo = w6.heap.size) := Lib.hid hlo.symm
        have b7 := Lib.hid ((Below.refl w6.heap.size w6).alloc (Nat.le_refl _) (.cells #[] 46))
        have P0 : Hid (Play w (w6.alloc (.cells #[] 46)) g h d t a' N lo 0 (some ⟨w6.heap.size, 0, none⟩) []) := Lib.hid ⟨X6, _, _, _, L6.out.after b7.out, Nat.le_refl _, fun bb hbb => by
          obtain ⟨y, hy⟩ := List.mem_iff_getElem?.1 hbb
          have hyl := get_lt hy
          rw [fillB_length] at hyl
          rw [fillB_get _ 0 hyl, fblk_free (Nat.zero_le _)] at hy
          cases hy
          exact Nat.le_refl _, rfl, RecB.nil, Nat.le_refl _, (by rw [← hlo]; exact b7.out.size), B6.out.trans (b7.out.mono B6.out.size)⟩
        clear hlo ha' HM HF L5 L6 b7 B5 HBB HAC B6 HT HV X
        go_loopw [11, 13, 14, 15, 16, 17, 19, 69] (fun vl _ _ _ _ _ _ vi wr => ∃ (i : Nat) (AL : Option Addr) (cL : Nat) (L : List RR), vi = .int .i64 (i : Int) ∧ vl = .slice AL L.length cL ∧ i ≤ S.length ∧ Hid (Play w wr g h d t a' N lo i AL L)) (fun _ _ _ _ _ _ _ vi _ => S.length - (intOf vi).toNat)
        case atStart => exact ⟨0, _, 0, [], rfl, rfl, Nat.zero_le _, P0⟩
        case round =>
          obtain ⟨i, AL, cL, L, rfl, rfl, hi, HP⟩ := hrel
          clear P0
          by_cases hlt : i < S.length
          · obtain ⟨o, ho⟩ : ∃ o, S[i]? = some o := ⟨_, List.getElem?_eq_getElem hlt⟩
            obtain ⟨p, rfl, hok, hc⟩ := HS.out.at_ ho
            have hi90 : i < 90 := by have := H90.out; omega
            obtain ⟨X, Bs, os, num, hl, hnum, hw, hL, hR, hlen, hlw, hb⟩ := HP.out
            have SO := Lib.hid hlw
            have SL := Lib.hid hl
            have SN := Lib.hid hnum
            have SW := Lib.hid hw
            have SE := Lib.hid hL
            have SR := Lib.hid hR
            have SB := Lib.hid hb
            have HOK := Lib.hid hok
            have HAL := Lib.hid (HALL.out o (List.mem_of_getElem? ho))
            obtain ⟨A', c', vs, ev, hrow, heach, hvl⟩ := id hok.v
            have HEV := Lib.hid ev
            have HD := Lib.hid (show (loadVar 41 (p.add (i * 6))).run Tryz.prog wr = .ok (.agg [.int .i64 o.k, .int .i64 o.rc, .int .i64 o.n, .int .i64 o.kp, .int .u8 ((o.ty.toNat : Nat) : Int), .slice A' vs.length c'].toArray) wr from by
              have := cells_load (row := o.row) aggOp8 sizeOp8 rfl (hc wr hb)
              unfold Op8.row at this
              rw [ev] at this
              exact this)
            have HROW := Lib.hid (show o.row = [.int .i64 o.k, .int .i64 o.rc, .int .i64 o.n, .int .i64 o.kp, .int .u8 ((o.ty.toNat : Nat) : Int), .slice A' vs.length c'] by unfold Op8.row; rw [ev])
            obtain ⟨ok_, hk_⟩ : ∃ ok_, o.k = ok_ := ⟨_, rfl⟩
            obtain ⟨orc, hrc⟩ : ∃ orc, o.rc = orc := ⟨_, rfl⟩
            obtain ⟨on, hon⟩ : ∃ on, o.n = on := ⟨_, rfl⟩
            obtain ⟨okp, hkp⟩ : ∃ okp, o.kp = okp := ⟨_, rfl⟩
            obtain ⟨tn, htn⟩ : ∃ tn : Int, ((o.ty.toNat : Nat) : Int) = tn := ⟨_, rfl⟩
            rw [hk_, hrc, hon, hkp, htn] at HD HROW
            have one8 : ∀ u ∈ [Value.int .i64 ok_, .int .i64 orc, .int .i64 on, .int .i64 okp, .int .u8 tn, .slice A' vs.length c'], u.oneCell' = true := by simp [Value.oneCell']
            have z8 := zeroOp8
            obtain ⟨kb, hkb⟩ : ∃ kb, (bits .and .i64 ok_ 7 == 0) = kb := ⟨_, rfl⟩
            clear hl hnum hw hL hR hb hlw hok hc ev hrow heach hvl hk_ hrc hon hkp htn HP ho
            go_upto_if 76 with (first
              | (with_reducible refine wpl_cells' (.tmp 71) rfl rfl rfl HD.out ?_)
              | ((with_reducible refine wpl_seg_store sizeOp8 (.tmp 13) (.tmp 72) rfl rfl (Blk.new wr 41 zOp8) 0 _ rfl (by simp [zOp8]) one8 rfl rfl [.int .i64 ok_, .int .i64 orc, .int .i64 on, .int .i64 okp, .int .u8 tn, .slice A' vs.length c'] rfl ?_); intro w4 R4 g4 e4; have RB := Lib.hid R4; have x0 : w4.cell? ⟨wr.heap.size, 0, none⟩ = some (.int .i64 ok_) := R4.cell 0; have x1 : w4.cell? ⟨wr.heap.size, 1, none⟩ = some (.int .i64 orc) := R4.cell 1; have x2 : w4.cell? ⟨wr.heap.size, 2, none⟩ = some (.int .i64 on) := R4.cell 2; have B4 := Lib.hid (show Below wr.heap.size wr w4 from ((Below.refl _ _).alloc (Nat.le_refl _) _).grown g4 (by simp) (fun k e => by cases e; exact Nat.le_refl _)); clear R4 g4 e4))
            have XC := Lib.hid (show ∀ w', Below w4.heap.size w4 w' → Blk w' wr.heap.size 41 [.int .i64 ok_, .int .i64 orc, .int .i64 on, .int .i64 okp, .int .u8 tn, .slice A' vs.length c'] from fun w' hb => RB.out.after hb)
            clear x0
            have B5 := Lib.hid (SB.out.trans (B4.out.mono SB.out.size))
            have SO4 := Lib.hid (Nat.le_trans SO.out B4.out.size)
            go_cut [11, 14, 15] (fun s11 s14 s15 wx => ∃ (AL' : Option Addr) (cL' : Nat) (L' : List RR) (e : Nat), s11 = .slice AL' L'.length cL' ∧ s14 = .bool true ∧ s15 = .int .i64 (e : Int) ∧ Hid (e ≠ 30) ∧ Hid (Play w wx g h d t a' N lo (i + 1) AL' L'))
            case first =>
              cases kb with
              | false =>
                have KP := Lib.hid (put8_any (SL.out.after B4.out) (by have := SN.out; omega) SW.out (by omega) AL cL lo L SE.out (SR.out.after B4.out) (by omega) HLT.out SO4.out o HOK.out B5.out HAL.out.1 HAL.out.2)
                rw [HROW.out] at KP
                go_wp2_with (first
                  | (with_reducible refine wpl_seg_load aggOp8 sizeOp8 (.tmp 13) rfl rfl RB.out 0 [.int .i64 ok_, .int .i64 orc, .int .i64 on, .int .i64 okp, .int .u8 tn, .slice A' vs.length c'] rfl rfl rfl ?_)
                  | (go_at_call 11; ((with_reducible refine KP.out.mono ?_); rintro e w5 ⟨AP, cP, r, LP, rfl, hr, hput⟩; have HPUT := Lib.hid hput; have HRR := Lib.hid hr; clear KP hput hr)))
                go_meet
                exact ⟨AP, cP, LP, r, rfl, rfl, rfl, HRR, Lib.hid (Play.put HPUT.out SN.out hlen B5.out SO4.out HF6.out)⟩
              | true =>
                go_upto_region 22 with (fail)
                go_cut [87] (fun s87 wx => ∃ b : Bool, s87 = .bool b ∧ Hid (b = true → 0 < L.length) ∧ Hid (wx = w4))
                case first =>
                  by_cases hL0 : 0 < L.length
                  · have dL : decide ((0 : Int) < (L.length : Int)) = true := decide_eq_true (by omega)
                    go_wp2_with fail
                    go_meet
                    exact ⟨_, rfl, Lib.hid (fun _ => hL0), Lib.hid rfl⟩
                  · have dL : decide ((0 : Int) < (L.length : Int)) = false := decide_eq_false (by omega)
                    go_wp2_with fail
                    go_meet
                    exact ⟨_, rfl, Lib.hid (fun q => by cases q), Lib.hid rfl⟩
                case rest =>
                  obtain ⟨lb, rfl, HLB, HWC⟩ := hcut
                  have hWC := HWC.out.symm
                  subst hWC
                  go_upto_if 87 with (fail)
                  go_cut [16] (fun s16 wx => ∃ zb : Int, s16 = .int .i64 zb ∧ Hid (wx = w4))
                  case first =>
                    cases lb with
                    | false =>
                      go_wp2_with fail
                      go_meet
                      exact ⟨_, rfl, Lib.hid rfl⟩
                    | true =>
                      have hL0 := HLB.out rfl
                      obtain ⟨q, hq, hql⟩ := low8 orc hL0
                      obtain ⟨r, hr⟩ : ∃ r, L[q]? = some r := ⟨_, List.getElem?_eq_getElem hql⟩
                      obtain ⟨p3, cs3, rfl, z1, hB3, z2, z3, z4, z5, h0⟩ := (SR.out.after B4.out).at_ hr
                      have c0 : w4.cell? ⟨p3, q * 4 + 2, none⟩ = some (.int .i64 (r.x : Int)) := (hB3.cell _).trans h0
                      obtain ⟨y, hy⟩ : ∃ y, r.x = y := ⟨_, rfl⟩
                      rw [hy] at c0
                      have hne : (L.length : Int) ≠ 0 := by omega
                      clear z1 hB3 z2 z3 z4 z5 h0 hr hy hL0
                      go_wp2_with fail
                      go_meet
                      exact ⟨_, rfl, Lib.hid rfl⟩
                  case rest =>
                    obtain ⟨zb, rfl, HWD⟩ := hcut
                    have hWD := HWD.out.symm
                    subst hWD
                    have HLEN : Hid (os.length ≤ 40) := Lib.hid (by have h1 := order_len SL.out.o.ord SL.out.lg.len; have h2 := SL.out.lg.n; omega)
                    have L4 := Lib.hid (SL.out.after B4.out)
                    have hl40 : os.length ≤ 40 := HLEN.out
                    have KSG := Lib.hid (segments_any L4.out.lg L4.out.o.ord (by omega))
                    obtain ⟨TH, hTH⟩ : ∃ TH, thereTo os zb = TH := ⟨_, rfl⟩
                    have HT0 : Hid (TH 0 = false) := Lib.hid (by rw [← hTH]; rfl)
                    have HTS : Hid (∀ (k x : Nat), os[k]? = some x → TH (k + 1) = (TH k || decide ((x : Int) = zb))) := Lib.hid (by rw [← hTH]; exact fun k x hx => thereTo_step hx)
                    have HTE : Hid (TH os.length = decide (∃ y ∈ os, ((y : Nat) : Int) = zb)) := Lib.hid (by rw [← hTH]; exact thereTo_all)
                    clear hTH
                    have t0 := HT0.out
                    have zs0 := zeroSg
                    go_wp2_with (go_at_call 8; ((with_reducible refine KSG.out.mono ?_); rintro e w5 ⟨A5, c5, rs5, rfl, ho5, hp5, b5⟩; have G5 := Lib.hid (SegB.of ho5 hp5); have BS5 := Lib.hid b5; clear b5 ho5 hp5 KSG))
                    go_loopw [17, 19, 102] (fun vt _ vk wq => ∃ k : Nat, vk = .int .i64 (k : Int) ∧ vt = .bool (TH k) ∧ k ≤ os.length ∧ Hid (Below w5.heap.size w5 wq)) (fun _ _ vk _ => os.length - (intOf vk).toNat)
                    case atStart => exact ⟨0, rfl, by rw [t0], Nat.zero_le _, Lib.hid (Below.refl _ _)⟩
                    case round =>
                      obtain ⟨k, rfl, rfl, hk, HBQ⟩ := hrel
                      clear t0
                      by_cases hkl : k < os.length
                      · obtain ⟨x, hx⟩ : ∃ x, os[k]? = some x := ⟨_, List.getElem?_eq_getElem hkl⟩
                        obtain ⟨q, cs5, r, rfl, hq, hB, h4, h1⟩ := (G5.out.chg (T := fun _ => False) (Chg.of_below HBQ.out) (fun k e => e.elim)) k x hx
                        obtain ⟨nx, hnx⟩ : ∃ nx, numAt Bs x = nx := ⟨_, rfl⟩
                        obtain ⟨vx, hvx⟩ : ∃ vx, wearAt Bs x = vx := ⟨_, rfl⟩
                        unfold segRow at h4
                        rw [hnx, hvx] at h4
                        have HSB := Lib.hid hB
                        have H4 := Lib.hid h4
                        have H1 := Lib.hid h1
                        have HTT := Lib.hid (HTS.out k x hx)
                        have HC1 := Lib.hid (show ∀ v ∈ [Value.int .i64 (x : Int), .int .u64 (nx : Int), .int .u64 (vx : Int), r], v.oneCell' = true from by
                          intro v hv
                          simp only [List.mem_cons, List.not_mem_nil, or_false] at hv
                          rcases hv with rfl | rfl | rfl | rfl
                          · rfl
                          · rfl
                          · rfl
                          · exact H1.out)
                        clear hB h4 h1 hq hnx hvx hx
                        obtain ⟨tk, htk⟩ : ∃ tk, TH k = tk := ⟨_, rfl⟩
                        rw [htk] at HTT
                        try rw [htk]
                        cases tk with
                        | true =>
                          go_wp2_with (first
                            | (with_reducible refine wpl_seg_load aggSg sizeSg (.tmp 104) rfl rfl HSB.out (k * 4) _ H4.out rfl rfl ?_)
                            | ((with_reducible refine wpl_seg_store sizeSg (.tmp 19) (.tmp 105) rfl rfl (Blk.new wr 51 [.int .i64 0, .int .u64 0, .int .u64 0, .slice none 0 0]) 0 [.int .i64 (x : Int), .int .u64 (nx : Int), .int .u64 (vx : Int), r] rfl (by simp) HC1.out rfl rfl [.int .i64 (x : Int), .int .u64 (nx : Int), .int .u64 (vx : Int), r] rfl ?_); intro w7 R7 g7 s7; have x7 : w7.cell? ⟨wr.heap.size, 0, none⟩ = some (.int .i64 (x : Int)) := R7.cell 0; have BQ7 := Lib.hid (show Below w5.heap.size w5 w7 from (HBQ.out.alloc HBQ.out.size _).grown g7 (by simp; have := HBQ.out.size; omega) (fun k e => by cases e; exact HBQ.out.size)); clear R7 g7 s7))
                          go_roundw
                          case rel => exact ⟨k + 1, by go_num, by rw [HTT.out]; rfl, by omega, BQ7⟩
                          case measure => simp [intOf]; omega
                        | false =>
                          by_cases hxz : (x : Int) = zb
                          · have dz : ((x : Int) == zb) = true := by simpa using hxz
                            have HXZ := Lib.hid hxz
                            clear hxz
                            go_wp2_with (first
                              | (with_reducible refine wpl_seg_load aggSg sizeSg (.tmp 104) rfl rfl HSB.out (k * 4) _ H4.out rfl rfl ?_)
                              | ((with_reducible refine wpl_seg_store sizeSg (.tmp 19) (.tmp 105) rfl rfl (Blk.new wr 51 [.int .i64 0, .int .u64 0, .int .u64 0, .slice none 0 0]) 0 [.int .i64 (x : Int), .int .u64 (nx : Int), .int .u64 (vx : Int), r] rfl (by simp) HC1.out rfl rfl [.int .i64 (x : Int), .int .u64 (nx : Int), .int .u64 (vx : Int), r] rfl ?_); intro w7 R7 g7 s7; have x7 : w7.cell? ⟨wr.heap.size, 0, none⟩ = some (.int .i64 (x : Int)) := R7.cell 0; have BQ7 := Lib.hid (show Below w5.heap.size w5 w7 from (HBQ.out.alloc HBQ.out.size _).grown g7 (by simp; have := HBQ.out.size; omega) (fun k e => by cases e; exact HBQ.out.size)); clear R7 g7 s7))
                            go_roundw
                            case rel => exact ⟨k + 1, by go_num, by rw [HTT.out, decide_eq_true HXZ.out]; rfl, by omega, BQ7⟩
                            case measure => simp [intOf]; omega
                          · have dz : ((x : Int) == zb) = false := by simpa using hxz
                            have HXZ := Lib.hid hxz
                            clear hxz
                            go_wp2_with (first
                              | (with_reducible refine wpl_seg_load aggSg sizeSg (.tmp 104) rfl rfl HSB.out (k * 4) _ H4.out rfl rfl ?_)
                              | ((with_reducible refine wpl_seg_store sizeSg (.tmp 19) (.tmp 105) rfl rfl (Blk.new wr 51 [.int .i64 0, .int .u64 0, .int .u64 0, .slice none 0 0]) 0 [.int .i64 (x : Int), .int .u64 (nx : Int), .int .u64 (vx : Int), r] rfl (by simp) HC1.out rfl rfl [.int .i64 (x : Int), .int .u64 (nx : Int), .int .u64 (vx : Int), r] rfl ?_); intro w7 R7 g7 s7; have x7 : w7.cell? ⟨wr.heap.size, 0, none⟩ = some (.int .i64 (x : Int)) := R7.cell 0; have BQ7 := Lib.hid (show Below w5.heap.size w5 w7 from (HBQ.out.alloc HBQ.out.size _).grown g7 (by simp; have := HBQ.out.size; omega) (fun k e => by cases e; exact HBQ.out.size)); clear R7 g7 s7))
                            go_roundw
                            case rel => exact ⟨k + 1, by go_num, by rw [HTT.out, decide_eq_false HXZ.out]; rfl, by omega, BQ7⟩
                            case measure => simp [intOf]; omega
                      · obtain rfl : k = os.length := by omega
                        have BZ := Lib.hid (BS5.out.trans (HBQ.out.mono BS5.out.size))
                        have KD := Lib.hid (drop_all (L4.out.after BZ.out) SW.out (by omega) (by omega) zb)
                        have RZ := Lib.hid ((SR.out.after B4.out).after BZ.out)
                        have BW6 := Lib.hid (B5.out.trans (BZ.out.mono B5.out.size))
                        have SOZ := Lib.hid (Nat.le_trans SO4.out BZ.out.size)
                        have KW : Hid (∀ W, Chg wr W (a'.log t d g h) → Calls Tryz.prog 10 #[.slice AL L.length cL, .int .i64 zb] W fun e w' => ∃ A' c', e = .returned (.slice A' (without L zb).length c') ∧ RecB w' W.heap.size A' (without L zb) ∧ Below W.heap.size W w') := Lib.hid (fun W hc => without_any AL L cL zb W lo (RZ.out.chg hc HLT.out) (by omega))
                        have hwl := Lib.hid (without_le L zb)
                        by_cases hz : ∃ y ∈ os, ((y : Nat) : Int) = zb
                        · have hte : TH os.length = true := by rw [HTE.out, decide_eq_true hz]
                          rw [if_pos hz] at KD
                          clear hz
                          go_wp2_with (first
                            | (go_at_call 9; ((with_reducible refine KD.out.mono ?_); rintro e w6 ⟨rfl, X', Bs', os', l6, hw6, c6, hl6⟩; have L6 := Lib.hid l6; have W6 := Lib.hid hw6; have C6 := Lib.hid c6; have E6 := Lib.hid hl6; have K6 := Lib.hid (KW.out w6 c6); clear KD KW l6 hw6 c6 hl6))
                            | (go_at_call 10; ((with_reducible refine K6.out.mono ?_); rintro e w8 ⟨AW, cW, rfl, hrw, bw⟩; have RW8 := Lib.hid hrw; have BW8 := Lib.hid bw; clear hrw bw K6)))
                          go_meet
                          exact ⟨AW, cW, without L zb, _, rfl, rfl, rfl, Lib.hid (by decide), Lib.hid (Play.drop L6.out SN.out W6.out (by rw [E6.out, ← SE.out]) RW8.out (by have := hwl.out; omega) (Nat.le_trans SOZ.out C6.out.size) (play_below BW6.out C6.out HF6.out) BW8.out)⟩
                        · have hte : TH os.length = false := by rw [HTE.out, decide_eq_false hz]
                          rw [if_neg hz] at KD
                          clear hz
                          go_wp2_with (first
                            | (go_at_call 9; ((with_reducible refine KD.out.mono ?_); rintro e w6 ⟨rfl, X', Bs', os', l6, hw6, c6, hl6⟩; have L6 := Lib.hid l6; have W6 := Lib.hid hw6; have C6 := Lib.hid c6; have E6 := Lib.hid hl6; have K6 := Lib.hid (KW.out w6 c6); clear KD KW l6 hw6 c6 hl6))
                            | (go_at_call 10; ((with_reducible refine K6.out.mono ?_); rintro e w8 ⟨AW, cW, rfl, hrw, bw⟩; have RW8 := Lib.hid hrw; have BW8 := Lib.hid bw; clear hrw bw K6)))
                          go_meet
                          exact ⟨AW, cW, without L zb, _, rfl, rfl, rfl, Lib.hid (by decide), Lib.hid (Play.drop L6.out SN.out W6.out (by rw [E6.out, ← SE.out]) RW8.out (by have := hwl.out; omega) (Nat.le_trans SOZ.out C6.out.size) (play_below BW6.out C6.out HF6.out) BW8.out)⟩
            case rest =>
              obtain ⟨AL', cL', L', e, rfl, rfl, rfl, HE, HP⟩ := hcut
              obtain ⟨X1, Bs1, os1, num1, hl1, _, _, hL1, hR1, hlen1, _, _⟩ := HP.out
              have Q1 := Lib.hid hl1
              have Q2 := Lib.hid hL1
              have Q3 := Lib.hid hR1
              have hol : os1.length ≤ 40 := by have h1 := order_len hl1.o.ord hl1.lg.len; have h2 := hl1.lg.n; omega
              have HOL := Lib.hid hol
              obtain ⟨M, hM⟩ : ∃ M, N - 6 = M := ⟨_, rfl⟩
              obtain ⟨F7, hF7⟩ : ∃ F7, freeTo Bs1 (N - 6) = F7 := ⟨_, rfl⟩
              obtain ⟨n7, hn7⟩ : ∃ n7, os1.length = n7 := ⟨_, rfl⟩
              have HSM : Hid (F7 + n7 = M) := Lib.hid (by
                have := hl1.o.ord.free
                rw [hl1.lg.len] at this
                omega)
              have HM40 : Hid (M ≤ 40) := Lib.hid (by have := hl1.lg.n; omega)
              have hE2 : ((e : Int) == 30) = false := by rw [beq_eq_false_iff_ne]; have := HE.out; omega
              have KH : Hid (∀ W, Below wc.heap.size wc W → Calls Tryz.prog 12 #[.pointer (some ⟨g, 0, none⟩), .slice AL' L'.length cL', .pointer none] W fun e w' => e = .returned (.bool true) ∧ Below W.heap.size W w') := Lib.hid (fun W hW => by
                have hl2 := Q1.out.after hW
                have := holds8_any hl2.lg hl2.o.ord hl2.o hl2.lg.len hl2.has AL' cL' lo (by rw [← Q2.out]; exact Q3.out.after hW) (by rw [← Q2.out]; omega)
                rw [← Q2.out] at this
                exact this)
              have KF : Hid (∀ W, Below wc.heap.size wc W → Calls Tryz.prog 13 #[.pointer (some ⟨g, 0, none⟩)] W fun e w' => e = .returned (.int .i64 (F7 : Int)) ∧ Below W.heap.size W w') := Lib.hid (fun W hW => by have := free_any (Q1.out.after hW).lg; rwa [hF7] at this)
              have KG : Hid (∀ W, Below wc.heap.size wc W → Calls Tryz.prog 8 #[.pointer (some ⟨g, 0, none⟩)] W fun e w' => ∃ A c rs, e = .returned (.slice A n7 c) ∧ w'.ownsRow W.heap.size 51 4 (.slice A n7 c) n7 (segRows Bs1 os1 rs) ∧ PlsS w' W.heap.size (fun x => recTo (fun k => (X1.blk x).pg.getD k []) 8) os1 rs ∧ Below W.heap.size W w') := Lib.hid (fun W hW => by have := segments_any (Q1.out.after hW).lg Q1.out.o.ord (by have := HOL.out; omega); rwa [hn7] at this)
              have KN : Hid (∀ W, Below wc.heap.size wc W → Calls Tryz.prog 14 #[.pointer (some ⟨d, 0, none⟩)] W fun e w' => e = .returned (.int .i64 (M : Int)) ∧ W = w') := Lib.hid (fun W hW => by have := (Q1.out.after hW).lg.dk.len; rwa [hM] at this)
              have HC0 : Hid (∀ W, Below wc.heap.size wc W → W.cell? ⟨g, 0, none⟩ = some (.pointer (some ⟨d, 0, none⟩))) := Lib.hid (fun W hW => (Q1.out.after hW).lg.cells.1)
              have HSUM : Hid (IntKind.i64.wrap ((F7 : Int) + (n7 : Int)) = (M : Int)) := Lib.hid (by have h1 := HSM.out; have h2 := HM40.out; rw [IntKind.wrap_i64]; omega)
              have S0 : Below wc.heap.size wc wc.drew := (Below.refl _ _).drew
              have HP2 : Hid (∀ W, Below wc.heap.size wc W → Play w W g h d t a' N lo (i + 1) AL' L') := Lib.hid (fun W hW => HP.out.after hW)
              clear hl1 hL1 hR1 hol hM hF7 hn7 hlen1 HE HP
              go_upto_region 35 with (fail)
              refine wp_region_held_drew (S := (fun w' => Below wc.heap.size wc w')) (by kernel_rfl) S0 (fun _ => ?_)
              refine wpAnyH_take (i := 0) (v := .bool true) rfl (by kernel_rfl) (by kernel_rfl) (by kernel_rfl) (fun _ _ _ h => h) (Or.inl ⟨by kernel_rfl, fun w _ => by go_simp⟩) S0 ?_
              refine wpAnyH_take (i := 1) (v := .bool false) rfl (by kernel_rfl) (by kernel_rfl) (by kernel_rfl) (fun _ _ _ h => h) (Or.inl ⟨by kernel_rfl, fun w _ => by go_simp⟩) S0 ?_
              refine wpAnyH_take (i := 2) (v := .bool false) rfl (by kernel_rfl) (by kernel_rfl) (by kernel_rfl) (fun _ _ _ h => h) (Or.inl ⟨by kernel_rfl, fun w _ => by go_simp⟩) S0 ?_
              refine wpAnyH_take (i := 3) (v := .int .i64 (e : Int)) rfl (by kernel_rfl) (by kernel_rfl) (by kernel_rfl) (fun _ _ _ h => h) (Or.inl ⟨by kernel_rfl, fun w _ => by go_simp⟩) S0 ?_
              refine wpAnyH_take (i := 4) (v := .bool false) rfl (by kernel_rfl) (by kernel_rfl) (by kernel_rfl) (fun _ _ _ h => h) (Or.inl ⟨by kernel_rfl, fun w _ => by go_simp⟩) S0 ?_
              refine wpAnyH_take (i := 5) (v := .bool false) rfl (by kernel_rfl) (by kernel_rfl) (by kernel_rfl) (fun _ _ _ h => h) (Or.inl ⟨by kernel_rfl, fun w _ => by go_simp⟩) S0 ?_
              refine wpAnyH_take (i := 6) (v := .bool false) rfl (by kernel_rfl) (by kernel_rfl) (by kernel_rfl) (fun _ _ _ h => h) (Or.inl ⟨by kernel_rfl, fun w _ => by go_simp⟩) S0 ?_
              refine wpAnyH_take (i := 7) (v := .pointer (some ⟨g, 0, none⟩)) rfl (by kernel_rfl) (by kernel_rfl) (by kernel_rfl) (fun _ _ _ h => h) (Or.inl ⟨by kernel_rfl, fun w _ => by go_simp⟩) S0 ?_
              refine wpAnyH_take (i := 8) (v := .slice AL' L'.length cL') rfl (by kernel_rfl) (by kernel_rfl) (by kernel_rfl) (fun _ _ _ h => h) (Or.inl ⟨by kernel_rfl, fun w _ => by go_simp⟩) S0 ?_
              refine wpAnyH_ready (rs := [9]) (by kernel_rfl) (by simp) (AllReadyH.cons rfl (fun K hK => ?_) AllReadyH.nil)
              go_simp
              ((with_reducible refine (KH.out _ S0).mono ?_); rintro e5 w5 ⟨rfl, b5⟩)
              have S1 : Below wc.heap.size wc w5 := S0.trans (b5.mono S0.size)
              refine hK.out _ _ S1 (fun _ => ?_)
              clear hK K b5
              refine wpAnyH_take (i := 10) (v := .bool false) rfl (by kernel_rfl) (by kernel_rfl) (by kernel_rfl) (fun _ _ _ h => h) (Or.inl ⟨by kernel_rfl, fun w _ => by go_simp⟩) S1 ?_
              refine wpAnyH_take (i := 11) (v := .bool false) rfl (by kernel_rfl) (by kernel_rfl) (by kernel_rfl) (fun _ _ _ h => h) (Or.inl ⟨by kernel_rfl, fun w _ => by go_simp⟩) S1 ?_
              refine wpAnyH_take (i := 12) (v := .bool false) rfl (by kernel_rfl) (by kernel_rfl) (by kernel_rfl) (fun _ _ _ h => h) (Or.inl ⟨by kernel_rfl, fun w _ => by go_simp⟩) S1 ?_
              refine wpAnyH_take (i := 13) (v := .pointer (some ⟨g, 0, none⟩)) rfl (by kernel_rfl) (by kernel_rfl) (by kernel_rfl) (fun _ _ _ h => h) (Or.inl ⟨by kernel_rfl, fun w _ => by go_simp⟩) S1 ?_
              refine wpAnyH_take (i := 15) (v := .pointer (some ⟨g, 0, none⟩)) rfl (by kernel_rfl) (by kernel_rfl) (by kernel_rfl) (fun _ _ _ h => h) (Or.inl ⟨by kernel_rfl, fun w _ => by go_simp⟩) S1 ?_
              refine wpAnyH_take (i := 19) (v := .pointer (some ⟨g, 0, none⟩)) rfl (by kernel_rfl) (by kernel_rfl) (by kernel_rfl) (fun _ _ _ h => h) (Or.inl ⟨by kernel_rfl, fun w _ => by go_simp⟩) S1 ?_
              refine wpAnyH_take (i := 20) (v := .pointer (some ⟨g, 0, none⟩)) rfl (by kernel_rfl) (by kernel_rfl) (by kernel_rfl) (fun _ _ _ h => h) (Or.inl ⟨by kernel_rfl, fun w _ => by go_simp⟩) S1 ?_
              refine wpAnyH_take (i := 21) (v := .pointer (some ⟨g, 0, none⟩)) rfl (by kernel_rfl) (by kernel_rfl) (by kernel_rfl) (fun _ _ _ h => h) (Or.inl ⟨by kernel_rfl, fun w _ => by go_simp⟩) S1 ?_
              refine wpAnyH_take (i := 22) (v := .pointer (some ⟨d, 0, none⟩)) rfl (by kernel_rfl) (by kernel_rfl) (by kernel_rfl) (fun _ _ _ h => h) (yields_one (ty := 29) (fun w => by kernel_rfl) (.tmp 161) (by kernel_rfl) (by kernel_rfl) (by kernel_rfl) HC0.out) S1 ?_
              refine wpAnyH_ready (rs := [14]) (by kernel_rfl) (by simp) (AllReadyH.cons rfl (fun K hK => ?_) AllReadyH.nil)
              go_simp
              ((with_reducible refine (KF.out _ S1).mono ?_); rintro e6 w6a ⟨rfl, b6⟩)
              have S2 : Below wc.heap.size wc w6a := S1.trans (b6.mono S1.size)
              refine hK.out _ _ S2 (fun _ => ?_)
              clear hK K b6
              refine wpAnyH_ready (rs := [16]) (by kernel_rfl) (by simp) (AllReadyH.cons rfl (fun K hK => ?_) AllReadyH.nil)
              go_simp
              ((with_reducible refine (KG.out _ S2).mono ?_); rintro e7 w7 ⟨A7, c7, rs7, rfl, _, _, b7⟩)
              have S3 : Below wc.heap.size wc w7 := S2.trans (b7.mono S2.size)
              refine hK.out _ _ S3 (fun _ => ?_)
              clear hK K b7
              refine wpAnyH_take (i := 17) (v := .int .i64 (n7 : Int)) rfl (by kernel_rfl) (by kernel_rfl) (by kernel_rfl) (fun _ _ _ h => h) (Or.inl ⟨by kernel_rfl, fun w _ => by go_simp⟩) S3 ?_
              refine wpAnyH_take (i := 18) (v := .int .i64 (M : Int)) rfl (by kernel_rfl) (by kernel_rfl) (by kernel_rfl) (fun _ _ _ h => h) (Or.inl ⟨by kernel_rfl, fun w _ => by have hs := HSUM.out; go_simp⟩) S3 ?_
              refine wpAnyH_ready (rs := [23]) (by kernel_rfl) (by simp) (AllReadyH.cons rfl (fun K hK => ?_) AllReadyH.nil)
              go_simp
              ((with_reducible refine (KN.out _ S3).mono ?_); rintro e8 w8 ⟨rfl, rfl⟩)
              refine hK.out _ _ S3 (fun _ => ?_)
              clear hK K
              refine wpAnyH_take (i := 24) (v := .bool false) rfl (by kernel_rfl) (by kernel_rfl) (by kernel_rfl) (fun _ _ _ h => h) (Or.inl ⟨by kernel_rfl, fun w _ => by go_simp⟩) S3 ?_
              refine wpAnyH_take (i := 25) (v := .bool false) rfl (by kernel_rfl) (by kernel_rfl) (by kernel_rfl) (fun _ _ _ h => h) (Or.inl ⟨by kernel_rfl, fun w _ => by go_simp⟩) S3 ?_
              refine wpAnyH_done (by kernel_rfl) ?_ _
              go_simp
              go_wp2_with fail
              go_roundw
              case rel => exact ⟨i + 1, AL', cL', L', by go_num, rfl, by omega, Lib.hid (HP2.out _ S3)⟩
              case measure => simp [intOf]; omega
          · obtain rfl : i = S.length := by omega
            obtain ⟨X1, Bs1, os1, num1, hl1, _, _, hL1, hR1, hlen1, _, hb1⟩ := HP.out
            have Q1 := Lib.hid hl1
            have Q2 := Lib.hid hL1
            have Q3 := Lib.hid hR1
            have Q4 := Lib.hid hb1
            have HLL := Lib.hid hlen1
            have c0 := hl1.lg.cells.1
            have c1 := hl1.lg.dk.count.1
            have KA := Lib.hid (again8_any hl1.lg.dk hl1.lg.len hl1.o hl1.has)
            have HO5 := Lib.hid (hl1.o.opened).ord
            have h90 := H90.out
            clear hl1 hL1 hR1 hlen1 hb1 HP
            go_wp2_with (first
              | (go_at_call 15; ((with_reducible refine KA.out.mono ?_); rintro e w5 ⟨g6, h6, d6, t6, rfl, l6, b5⟩; have L6 := Lib.hid l6; have B5 := Lib.hid b5; have R5 := Lib.hid (Q3.out.after b5); have KH := Lib.hid (holds8_any l6 HO5.out Q1.out.o Q1.out.lg.len Q1.out.has AL cL lo (by rw [← Q2.out]; exact R5.out) (by rw [← Q2.out]; have := HLL.out; omega)); rw [← Q2.out] at KH; clear KA l6 b5))
              | (go_at_call 12; ((with_reducible refine KH.out.mono ?_); rintro e w6 ⟨rfl, b6⟩; have B6 := Lib.hid (B5.out.trans (b6.mono B5.out.size)); have KF6 := Lib.hid (free_any (L6.out.after b6)); rw [freeTo_opened8] at KF6; clear KH b6))
              | (go_at_call_of 13 (Value.pointer (some ⟨g6, 0, none⟩)); ((with_reducible refine KF6.out.mono ?_); rintro e w7 ⟨rfl, b7⟩; have B7 := Lib.hid (B6.out.trans (b7.mono B6.out.size)); have KF7 := Lib.hid (free_any (Q1.out.after B7.out).lg); clear KF6 b7))
              | (go_at_call 13; ((with_reducible refine KF7.out.mono ?_); rintro e w8 ⟨rfl, b8⟩; have B8 := Lib.hid (B7.out.trans (b8.mono B7.out.size)); clear KF7 b8)))
            go_ret
            exact ⟨by simp, Q4.out.trans (B8.out.mono Q4.out.size)⟩
end Go.Proofs.YtdiocjneakfdgaaGreatDoor


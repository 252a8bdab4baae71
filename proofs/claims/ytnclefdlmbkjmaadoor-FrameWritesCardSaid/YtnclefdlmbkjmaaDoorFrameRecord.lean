/- The contract of frame's record: the data of a record. Condition: the table holds its sixteen numbers; a body of at most 240 bytes. -/
import Derived.Test.YtnclefdlmbkjmaaDoorFrameCopy
import Derived.Test.YtnclefdlmbkjmaaDoorFrameFits
import Derived.Test.YtnclefdlmbkjmaaDoorPackJoin
import Derived.Deep.RegionHeld3
namespace Go.Proofs.YtnclefdlmbkjmaaDoor
open Go.RowKit
namespace FM
theorem lay_fill {pre body m : List UInt8} {tot j : Nat} (hj : j ≤ body.length) (ht : body.length ≤ tot) (hm : (body.drop j).take m.length = m) (hm2 : j + m.length ≤ body.length) : lay (fill pre body tot j) (pre.length + j) m = fill pre body tot (j + m.length) := by
  unfold lay fill
  have h1 : (pre ++ (body.take j ++ List.replicate (tot - j) 0)).take (pre.length + j) = pre ++ body.take j := by
    rw [List.take_append, List.take_of_length_le (Nat.le_add_right _ _), Nat.add_sub_cancel_left, List.take_append_of_le_length (by rw [List.length_take]; omega), List.take_of_length_le (by rw [List.length_take]; omega)]
  have h2 : (pre ++ (body.take j ++ List.replicate (tot - j) 0)).drop (pre.length + j + m.length) = List.replicate (tot - (j + m.length)) 0 := by
    rw [List.drop_append, List.drop_of_length_le (by omega), List.nil_append, show pre.length + j + m.length - pre.length = j + m.length by omega, List.drop_append, List.drop_of_length_le (by rw [List.length_take]; omega), List.nil_append, List.drop_replicate]
    congr 1
    rw [List.length_take]
    omega
  rw [h1, h2]
  have h3 : body.take (j + m.length) = body.take j ++ m := by
    rw [List.take_add, hm]
  rw [h3]
  simp
end FM
/-- a result that is an array -/
theorem ret1 {fn : Func} {p : Tmp} {w : World} {g : Nat} {L : List UInt8} (h : fn.results = #[.cell p 45]) (tmps : Array Value) (hA : Arr w g L) (hp : tmps.getD p undef = .pointer (some ⟨g, 0, none⟩)) :
    (results fn tmps).run Tryd.prog w = .ok (.agg (cl L)) w := by
  have hp' : tmps[p]?.getD undef = .pointer (some ⟨g, 0, none⟩) := by simpa using hp
  simp [results, h, hp', asAddr, hA.load]
set_option maxRecDepth 100000 in
set_option maxHeartbeats 8000000 in
theorem record_any (kind : UInt8) (body : List UInt8) (v : Value) (L : List (List UInt8)) (hLb : L.flatten = body) (hb : body.length ≤ 240) (w : World) (B : Nat) (hB : B ≤ w.heap.size) (hp : Parts w B v L) (ht : Tab w) :
    Calls Tryd.prog 16 #[.int .u8 ((kind.toNat : Nat) : Int), .int .i64 (body.length : Int), v] w fun e w' => e = .returned (.agg (cl (FM.dat kind body))) ∧ Below w.heap.size w w' := by
  have z := zeroData
  obtain ⟨A, c, vs, rfl, hr, he, hvl⟩ := hp
  unfold maxLen at hvl
  have R0 := arr_one w HM.zeros_length HM.zeros
  have D0 := arr_two w HM.zeros HM.zeros_length
  have B0 := Lib.hid (hb_two w HM.zeros HM.zeros)
  obtain ⟨bl, hbl⟩ : ∃ bl, bl = UInt8.ofNat body.length := ⟨_, rfl⟩
  have hbl2 : (body.length : Int) = ((bl.toNat : Nat) : Int) := by
    rw [hbl, UInt8.toNat_ofNat']
    omega
  have HBL0 := Lib.hid hbl
  have HT := Lib.hid ht
  have HSET : Hid (((cl HM.zeros).setIfInBounds 0 (.int .u8 ((kind.toNat : Nat) : Int))).setIfInBounds 1 (.int .u8 (body.length : Int)) = cl (FM.fill [kind, bl] body 254 0)) := Lib.hid (by
    rw [hbl2, cl_set, cl_set, FM.zeros_two kind bl body])
  have hfl : (FM.fill [kind, bl] body 254 0).length = 256 := FM.fill_length _ _ _ _ (Nat.zero_le _) (by omega)
  have hfull : L.take vs.length = L := by rw [he.1]; exact List.take_length
  have HF := Lib.hid hfull
  have HLB := Lib.hid hLb
  have HT2 := Lib.hid (flat_take_le L)
  clear hbl hbl2 ht hfull
  go_enter Tryd.func16, Tryd.ntmps16
  go_wp2_with (refine wpl_store (.tmp 7) (.tmp 14) rfl rfl D0.out rfl hfl (congrArg Value.agg HSET.out) ?_; intro w4 D4 g4 e4)
  have R4 := Lib.hid (R0.out.grown g4 (by omega))
  have B4 := Lib.hid (B0.out.grown g4 B0.out.size (fun k e => by cases e; omega))
  have D4 := Lib.hid D4
  clear R0 D0 B0 g4 e4 HSET hfl
  go_loopw [8, 17] (fun z i wr => ∃ k : Nat, k ≤ vs.length ∧ i = .int .i64 k ∧ z = .int .i64 ((2 + (L.take k).flatten.length : Nat) : Int) ∧ Arr wr (w.heap.size + 1) (FM.fill [kind, bl] body 254 (L.take k).flatten.length) ∧ Arr wr w.heap.size HM.zeros ∧ Below w.heap.size w wr) (fun _ i _ => vs.length - (intOf i).toNat)
  case atStart => exact ⟨0, Nat.zero_le _, rfl, rfl, D4.out, R4.out, B4.out⟩
  case round =>
    obtain ⟨k, hk, rfl, rfl, hD, hR, hBe⟩ := hrel
    have HD := Lib.hid hD
    have HR := Lib.hid hR
    have HBe := Lib.hid hBe
    clear hD hR hBe D4 R4 B4
    by_cases hlt : k < vs.length
    · obtain ⟨a, rfl, hab, hcell⟩ := hr.at_ hlt
      obtain ⟨l, hl, hbyt⟩ := he.at_ hlt
      have hc2 := (HBe.out.cell (p := a.add k) (by rw [add_block]; omega)).trans hcell
      have e : (L.take (k + 1)).flatten = (L.take k).flatten ++ l := by rw [take_snoc L hl, List.flatten_append]; simp
      have hle := HT2.out (k + 1)
      rw [e, List.length_append, HLB.out] at hle
      obtain ⟨j, hj⟩ : ∃ j, j = (L.take k).flatten.length := ⟨_, rfl⟩
      have hpre : (body.drop j).take l.length = l := by
        have e3 : body = (L.take (k + 1)).flatten ++ (L.drop (k + 1)).flatten := by rw [← List.flatten_append, List.take_append_drop, HLB.out]
        rw [e3, e, List.append_assoc, hj, List.drop_left, List.take_left]
      have HLF : Hid (lay (FM.fill [kind, bl] body 254 j) (2 + j) l = FM.fill [kind, bl] body 254 (j + l.length)) := Lib.hid (FM.lay_fill (pre := [kind, bl]) (by omega) (by omega) hpre (by omega))
      have HE : Hid ((L.take (k + 1)).flatten.length = j + l.length) := Lib.hid (by rw [e, List.length_append, hj])
      rw [← hj] at HD hle ⊢
      obtain ⟨u, hu⟩ : ∃ u, u = vs[k] := ⟨_, rfl⟩
      rw [← hu] at hc2 hbyt
      have DY := Lib.hid (hbyt.keep (w' := wr) fun p hp => HBe.out.cell (by omega))
      obtain ⟨Ai, ci, hv, hlc, hcm, hrow⟩ := hbyt
      rw [hv] at hc2 DY
      unfold maxLen at hcm
      clear hcell hpre hj e hu hl hrow hv
      have hAr := Lib.hid HD.out.1
      have ww1 : (2 : Int) + (j : Int) ≤ 256 := by omega
      have ww2 : (0 : Int) ≤ 2 + (j : Int) := by omega
      have ww3 : (2 + (j : Int)).toNat = 2 + j := by omega
      have ww4 : ¬ 256 = 2 + j := by omega
      have hle2 : l.length ≤ 256 - (2 + j) := by omega
      go_wp2_with (refine wpl_copy byteTys rfl (.tmp 23) (.tmp 24) rfl hAr.out (2 + j) (256 - (2 + j)) _ rfl _ rfl B DY.out (List.take_of_length_le hle2) (by rw [FM.fill_length _ _ _ _ (by omega) (by omega)]; simp; omega) l.length rfl ?_; intro w7 h7 g7 e7)
      have D7 : Arr w7 (w.heap.size + 1) (FM.fill [kind, bl] body 254 (j + l.length)) := ⟨by rw [← HLF.out]; exact h7.out, FM.fill_length _ _ _ _ (by omega) (by omega)⟩
      have R7 := HR.out.grown g7 (by omega)
      have B7 := HBe.out.grown g7 HBe.out.size (fun k e => by cases e; omega)
      exact ⟨⟨k + 1, by omega, by go_num, by rw [HE.out]; go_num, by rw [HE.out]; exact D7, R7, B7⟩, by simp [intOf]; omega⟩
    · obtain rfl : k = vs.length := by omega
      rw [HF.out, HLB.out] at HD ⊢
      obtain ⟨X, hX⟩ : ∃ X, X = FM.rec252 kind body := ⟨_, rfl⟩
      obtain ⟨n, hn⟩ : ∃ n, n = CM.on 0 X := ⟨_, rfl⟩
      have hXL : X.length = 252 := hX ▸ FM.rec252_length kind body hb
      have hn4 : n < 4294967296 := hn ▸ CM.on_lt (by omega) X
      rw [HBL0.out, FM.fill_rec kind body (numB 4 n) hb, ← hX] at HD
      have hby := arr_bytes HD.out (n := 252) (X := X) (by simp [FM.fill, ← hXL]) hXL (by omega)
      have htw : Tab wr := HT.out.below HBe.out HT.out.lt
      have hw4 : wid 4 = 4 := by decide
      have HX := Lib.hid hX
      have HN := Lib.hid hn
      have k2 : ∀ w : World, Calls Tryd.prog 17 #[.int .i64 4, .int .u64 (IntKind.u64.wrap (n : Int))] w fun e w' => ∃ A c, e = .returned (.slice A 4 c) ∧ Own 5 w' w.heap.size (.slice A 4 c) (numB 4 n) ∧ Below w.heap.size w w' := fun w => by
        have h := num_any 4 n w
        rw [hw4] at h
        rw [show IntKind.u64.wrap (n : Int) = (n : Int) by rw [IntKind.wrap_u64]; omega]
        exact h
      have JX : Joined (wr.alloc (.cells #[.slice (some ⟨w.heap.size + 1, 0, none⟩) 252 256] 24)).drew (wr.heap.size + 1) (.slice (some ⟨wr.heap.size, 0, none⟩) 1 1) X := Joined.keep (Joined.one hby (Nat.le_refl _) wr.heap.size rfl (wr.heap.size + 1) (by omega) 24) (fun p hp => rfl)
      have TX : Tab (wr.alloc (.cells #[.slice (some ⟨w.heap.size + 1, 0, none⟩) 252 256] 24)).drew := Tab.below htw ((Below.refl wr.heap.size wr).alloc (Nat.le_refl _) _).drew htw.lt
      have k1 := sum_call _ X _ _ TX JX
      rw [← hn] at k1
      have D8 := Lib.hid ((HD.out.alloc (.cells #[.slice (some ⟨w.heap.size + 1, 0, none⟩) 252 256] 24)).drew)
      have R8 := Lib.hid ((HR.out.alloc (.cells #[.slice (some ⟨w.heap.size + 1, 0, none⟩) 252 256] 24)).drew)
      have B8 : Hid (Below w.heap.size w (wr.alloc (.cells #[.slice (some ⟨w.heap.size + 1, 0, none⟩) 252 256] 24)).drew) := Lib.hid ((HBe.out.alloc HBe.out.size _).drew)
      clear hX hn hby htw hw4 HD HR HBe JX TX
      go_wp2_with fail
      go_region_held3 (fun _ => True) (trivial) (first
        | (go_at_call 28; (with_reducible refine k1.mono ?_); rintro e w' ⟨rfl, rfl⟩)
        | (go_at_call 17; (with_reducible refine (k2 _).mono ?_); rintro e w8 ⟨As, cs, rfl, O8, hb8⟩; have O8b := Lib.hid (O8.bytes (by rw [numB_length]; simp [maxLen])); have D9 := Lib.hid (D8.out.after hb8); have R9 := Lib.hid (R8.out.after hb8); have B9 := Lib.hid (B8.out.trans (hb8.mono B8.out.size)); clear O8 hb8)
        | (revert D9; intro D9; refine step_copy byteTys (by rfl) (.tmp 28) (.tmp 33) (by rfl) D9.out.1 252 4 4 (by rfl) _ (by rfl) _ O8b.out (List.take_of_length_le (by rw [numB_length]; omega)) (by rw [numB_length, D9.out.2]; omega) 4 (by rw [numB_length]) ?_; intro w10 h10 g10 e10))
      have hlay : lay (FM.fill X (numB 4 n) 4 0) 252 (numB 4 n) = FM.dat kind body := by
        have h := FM.lay_fill (pre := X) (body := numB 4 n) (m := numB 4 n) (tot := 4) (j := 0) (Nat.zero_le _) (by rw [numB_length]; omega) (by rw [List.drop_zero, List.take_length]) (by omega)
        rw [hXL, numB_length, Nat.add_zero, Nat.zero_add] at h
        rw [h, HN.out, HX.out, FM.fill_dat]
      have hdl := FM.dat_length kind body hb
      have D10 : Arr w10 (w.heap.size + 1) (FM.dat kind body) := ⟨by rw [← hlay]; exact h10.out, hdl⟩
      have R10 := R9.out.grown g10 (by omega)
      have B10 := Lib.hid (B9.out.grown g10 B9.out.size (fun k e => by cases e; omega))
      clear h10 g10 e10 hlay D8 D9 R8 R9 B8 B9 O8b k1 k2
      go_wp2_with (first | (with_reducible refine wpl_load (.tmp 7) rfl rfl D10 rfl ?_) | (with_reducible refine wpl_store (.tmp 6) (.tmp 35) rfl rfl R10 rfl hdl rfl ?_; intro w11 R11 g11 e11))
      refine bodyPost_ret (ret1 rfl _ R11 rfl) rfl ?_
      exact ⟨rfl, B10.out.grown g11 B10.out.size (fun k e => by cases e; exact Nat.le_refl _)⟩
end Go.Proofs.YtnclefdlmbkjmaaDoor

/- The contract of frame's Write: the page of the record, or a refusal. Condition: the table holds its sixteen numbers; at most a million bytes in all. -/
import Derived.Test.YtnclefdlmbkjmaaDoorFrameRecord
import Derived.Test.YtnclefdlmbkjmaaDoorHamCheck
import Derived.Test.YtnclefdlmbkjmaaDoorHamEq
namespace Go.Proofs.YtnclefdlmbkjmaaDoor
open Go.RowKit
theorem FM.lay_page (D : List UInt8) (hD : D.length = 256) (a b : UInt8) : lay (lay pzeros 0 D) 256 [a, b] = D ++ [a, b] := by
  have h1 : lay pzeros 0 D = D ++ [0, 0] := by
    unfold lay
    rw [List.take_zero, List.nil_append, Nat.zero_add, hD]
    rfl
  rw [h1]
  unfold lay
  rw [List.take_append_of_le_length (by omega), List.take_of_length_le (by omega), List.drop_of_length_le (by simp [hD]), List.append_nil]
theorem numB_two (n : Nat) : numB 2 n = [UInt8.ofNat n, UInt8.ofNat (n / 256)] := by
  simp [numB]
set_option maxRecDepth 100000 in
set_option maxHeartbeats 8000000 in
theorem write_any (kind : UInt8) (v : Value) (L : List (List UInt8)) (w : World) (B : Nat) (hB : B ≤ w.heap.size) (hp : Parts w B v L) (ht : Tab w) (hlen : L.flatten.length ≤ 1000000) :
    Calls Tryd.prog 9 #[.int .u8 ((kind.toNat : Nat) : Int), v] w fun e w' => e = .returned (.tuple #[.agg (cl (FM.writeM kind L.flatten).1), .int .i64 (((FM.writeM kind L.flatten).2 : Nat) : Int)]) ∧ Below w.heap.size w w' := by
  have z := zeroPage
  have HP0 := Lib.hid hp
  obtain ⟨A, c, vs, rfl, hr, he, hvl⟩ := hp
  unfold maxLen at hvl
  have R0 := Lib.hid (PArr.new w pzeros_length)
  have B0 : Hid (Below w.heap.size w (w.alloc (.cells (cl pzeros) 26))) := Lib.hid ((Below.refl _ _).alloc (Nat.le_refl _) _)
  obtain ⟨body, hbody⟩ : ∃ body, body = L.flatten := ⟨_, rfl⟩
  have hfull : L.take vs.length = L := by rw [he.1]; exact List.take_length
  have HF := Lib.hid hfull
  have HLB := Lib.hid hbody
  have HT2 := Lib.hid (flat_take_le L)
  have HT := Lib.hid ht
  have hkl : kind.toNat < 256 := kind.toNat_lt
  rw [← hbody] at hlen ⊢
  clear ht hfull hbody
  go_enter Tryd.func9, Tryd.ntmps9
  go_wp2_with fail
  go_loop [6, 13] (fun z i => ∃ k : Nat, k ≤ vs.length ∧ i = .int .i64 k ∧ z = .int .i64 ((L.take k).flatten.length : Int)) (fun _ i => vs.length - (intOf i).toNat)
  case atStart => exact ⟨0, Nat.zero_le _, rfl, rfl⟩
  case round =>
    obtain ⟨k, hk, rfl, rfl⟩ := hrel
    by_cases hlt : k < vs.length
    · obtain ⟨a, rfl, hab, hcell⟩ := hr.at_ hlt
      obtain ⟨l, hl, Ai, ci, hv, hlc, hcm, hrow⟩ := he.at_ hlt
      have hc2 := (B0.out.cell (p := a.add k) (by rw [add_block]; omega)).trans hcell
      rw [hv] at hc2
      have e : (L.take (k + 1)).flatten.length = (L.take k).flatten.length + l.length := by rw [take_snoc L hl, List.flatten_append, List.length_append]; simp
      have hle := HT2.out (k + 1)
      obtain ⟨z, hz⟩ : ∃ z, z = (L.take k).flatten.length := ⟨_, rfl⟩
      rw [← hz] at e ⊢
      rw [e, ← HLB.out] at hle
      have HE := Lib.hid e
      clear hv hl hrow e hz hcell
      unfold maxLen at hcm
      go_wp2_with fail
      go_round
      case rel => exact ⟨k + 1, by omega, by go_num, by rw [HE.out]; go_num⟩
      case measure => simp [intOf]; omega
    · obtain rfl : k = vs.length := by omega
      rw [HF.out, ← HLB.out]
      have k1 := fits_any kind.toNat (body.length : Int)
      by_cases hf : 1 ≤ kind.toNat ∧ kind.toNat ≤ 254 ∧ (body.length : Int) ≤ 240
      · rw [decide_eq_true hf] at k1
        have hb : body.length ≤ 240 := by omega
        have h0 : kind ≠ 0 := fun e => by rw [e] at hf; exact absurd hf.1 (by decide)
        have h1 : kind ≠ 255 := fun e => by rw [e] at hf; exact absurd hf.2.1 (by decide)
        have HW : Hid (FM.writeM kind body = (FM.page kind body, 0)) := Lib.hid (by
          unfold FM.writeM
          rw [if_neg]
          intro h
          rcases h with h | h | h
          · exact h0 h
          · exact h1 h
          · omega)
        have k2 := record_any kind body _ L HLB.out.symm hb _ B (by rw [World.size_alloc]; omega) (HP0.out.below (B := B) ((B0.out).mono hB)) (HT.out.below B0.out HT.out.lt)
        clear hf h0 h1
        go_wp2_with fail
        ((with_reducible refine (k1 _).mono ?_); rintro e w' ⟨rfl, rfl⟩)
        go_wp2_with fail
        ((with_reducible refine k2.mono ?_); rintro e w2 ⟨rfl, hb2⟩)
        have R2 := Lib.hid (R0.out.after hb2)
        have B2 := Lib.hid (B0.out.trans (hb2.mono B0.out.size))
        have hle2 : w.heap.size < w2.heap.size := R2.out.lt
        obtain ⟨D, hD⟩ : ∃ D, D = FM.dat kind body := ⟨_, rfl⟩
        have hDL : D.length = 256 := hD ▸ FM.dat_length kind body hb
        rw [← hD]
        have HDD := Lib.hid hD
        clear R0 B0 hb2 k1 k2 hD
        have z2 := zeroData
        go_wp2_with (with_reducible refine wpl_store (.tmp 9) (.tmp 30) rfl rfl (Arr.new w2 HM.zeros_length) rfl hDL rfl ?_; intro w3 D3 g3 e3)
        have hg8 : w3.heap.size = w2.heap.size + 1 := by rw [e3, World.size_alloc]
        have D4 : Hid (Arr (w3.alloc (.cells (cl pzeros) 26)).drew w2.heap.size D) := Lib.hid (D3.alloc _).drew
        have P4 : Hid (PArr (w3.alloc (.cells (cl pzeros) 26)).drew (w2.heap.size + 1) pzeros) := Lib.hid (by have := (PArr.new w3 pzeros_length).drew; rw [hg8] at this; exact this)
        have R4 : Hid (PArr (w3.alloc (.cells (cl pzeros) 26)).drew w.heap.size pzeros) := Lib.hid (((R2.out.alloc _).grown g3 (by omega)).alloc _).drew
        have B3 := kept_new B2.out g3
        have B4 : Hid (Below w.heap.size w (w3.alloc (.cells (cl pzeros) 26)).drew) := Lib.hid (B3.alloc B3.size _).drew
        obtain ⟨g8, hg8e⟩ : ∃ g8, g8 = w2.heap.size := ⟨_, rfl⟩
        rw [← hg8e] at D4 P4 hle2 ⊢
        have DB4 := Lib.hid (arr_bytes D4.out (n := 256) (X := D) (by rw [← hDL, List.take_length]) hDL (by omega))
        clear D3 g3 e3 B3 R2 B2 hg8 hg8e
        go_region_held3 (fun _ => True) (trivial) ((refine step_copy byteTys (by rfl) (.tmp 31) (.tmp 32) (by rfl) P4.out.1 0 258 _ (by rfl) _ (by rfl) _ DB4.out (List.take_of_length_le (by omega)) (by rw [pzeros_length]; omega) 256 hDL ?_; intro w5 h5 g5 e5))
        have P5 : Hid (PArr w5 (g8 + 1) (lay pzeros 0 D)) := Lib.hid ⟨h5.out, by rw [lay_length (by rw [pzeros_length]; omega), pzeros_length]⟩
        have D5 := Lib.hid (D4.out.grown g5 (by omega))
        have R5 := Lib.hid (R4.out.grown g5 (by omega))
        have B5 := Lib.hid (B4.out.grown g5 B4.out.size (fun k e => by cases e; omega))
        clear h5 g5 e5 D4 P4 R4 B4 DB4
        have k3 := check_any D hDL
        obtain ⟨q, hq⟩ : ∃ q, q = HM.ck D := ⟨_, rfl⟩
        have hq2 : q < 8192 := hq ▸ HM.ck_lt D
        rw [← hq] at k3
        have HQ := Lib.hid hq
        have k4 : ∀ w : World, Calls Tryd.prog 17 #[.int .i64 2, .int .u64 (IntKind.u64.wrap (q : Int))] w fun e w' => ∃ A c, e = .returned (.slice A 2 c) ∧ Own 5 w' w.heap.size (.slice A 2 c) (numB 2 q) ∧ Below w.heap.size w w' := fun w => by
          have h := num_any 2 q w
          rw [show wid 2 = 2 by decide] at h
          rw [show IntKind.u64.wrap (q : Int) = (q : Int) by rw [IntKind.wrap_u64]; omega]
          exact h
        clear hq
        go_wp2_with fail
        have D6 : Arr w5.drew g8 D := D5.out.drew
        refine wp_region_held_drew (S := fun w' => Arr w' g8 D) (by kernel_rfl) D6 (fun _ => ?_)
        refine wpAnyH_take (i := 0) (v := .slice (some ⟨g8 + 1, 256, none⟩) 2 2) rfl (by kernel_rfl) (by kernel_rfl) (by kernel_rfl) (fun _ _ _ h => h) (Or.inl ⟨by rfl, fun w _ => by go_simp⟩) D6 ?_
        refine wpAnyH_take (i := 1) (v := .agg (cl D)) rfl (by kernel_rfl) (by kernel_rfl) (by kernel_rfl) (fun _ _ _ h => h) (yields_load (.tmp 9) rfl rfl rfl (fun _ h => h)) D6 ?_
        refine wpAnyH_ready (rs := [2]) (by kernel_rfl) (by simp) (AllReadyH.cons rfl (fun K hK => ?_) AllReadyH.nil)
        go_simp
        ((with_reducible refine (k3 _).mono ?_); rintro e w6 ⟨rfl, hb6⟩)
        have D7 := D6.after hb6
        have hb6' : Below w5.heap.size w5 w6 := (Below.refl w5.heap.size w5).drew.trans hb6
        have P7 := Lib.hid (P5.out.after hb6')
        have R7 := Lib.hid (R5.out.after hb6')
        have B7 := Lib.hid (B5.out.trans (hb6'.mono B5.out.size))
        refine hK.out _ _ D7 (fun _ => ?_)
        clear hK K D6 D5 P5 R5 B5 hb6 hb6' k3
        refine wpAnyH_take (i := 3) (v := .int .u64 (IntKind.u64.wrap (q : Int))) rfl (by kernel_rfl) (by kernel_rfl) (by kernel_rfl) (fun _ _ _ h => h) (Or.inl ⟨by rfl, fun w _ => by go_simp⟩) D7 ?_
        refine wpAnyH_ready (rs := [4]) (by kernel_rfl) (by simp) (AllReadyH.cons rfl (fun K hK => ?_) AllReadyH.nil)
        go_simp
        ((with_reducible refine (k4 _).mono ?_); rintro e w8 ⟨As, cs, rfl, O8, hb8⟩)
        have O8b := Lib.hid (O8.bytes (by rw [numB_length]; simp [maxLen]))
        have D9 := D7.after hb8
        have P9 := Lib.hid (P7.out.after hb8)
        have R9 := Lib.hid (R7.out.after hb8)
        have B9 := Lib.hid (B7.out.trans (hb8.mono B7.out.size))
        refine hK.out _ _ D9 (fun _ => ?_)
        clear hK K D7 P7 R7 B7 hb8 k4 O8
        have hpl := P9.out.2
        refine wpAnyH_ready (rs := [5]) (by kernel_rfl) (by simp) (AllReadyH.cons rfl (fun K hK => ?_) AllReadyH.nil)
        refine step_copy byteTys (by rfl) (.tmp 34) (.tmp 38) (by rfl) P9.out.1 256 2 2 (by rfl) _ (by rfl) _ O8b.out (List.take_of_length_le (by rw [numB_length]; omega)) (by rw [numB_length, hpl]; omega) 2 (by rw [numB_length]) ?_
        intro w10 h10 g10 e10
        have hpg : lay (lay pzeros 0 D) 256 (numB 2 q) = FM.page kind body := by
          rw [numB_two, FM.lay_page D hDL, HQ.out, HDD.out]
          rfl
        have hpl2 : (FM.page kind body).length = 258 := FM.page_length kind body hb
        have P10 : PArr w10 (g8 + 1) (FM.page kind body) := ⟨by rw [← hpg]; exact h10.out, hpl2⟩
        have R10 := R9.out.grown g10 (by omega)
        have B10 := Lib.hid (B9.out.grown g10 B9.out.size (fun k e => by cases e; omega))
        refine hK.out _ _ (D9.grown g10 (by omega)) (fun _ => ?_)
        clear hK K h10 g10 e10 hpg D9 P9 R9 B9 O8b
        refine wpAnyH_done (by kernel_rfl) ?_ _
        go_wp2_with (first | (with_reducible refine wpl_pload (.tmp 10) rfl rfl P10 rfl ?_) | (with_reducible refine wpl_pstore (.tmp 4) (.tmp 40) rfl rfl R10 rfl hpl2 rfl ?_; intro w11 R11 g11 e11))
        refine bodyPost_ret (pret2 rfl _ R11 rfl) rfl ?_
        rw [HW.out]
        exact ⟨rfl, B10.out.grown g11 B10.out.size (fun k e => by cases e; exact Nat.le_refl _)⟩
      · rw [decide_eq_false hf] at k1
        have HW : Hid (FM.writeM kind body = (pzeros, 1)) := Lib.hid (by
          unfold FM.writeM
          rw [if_pos]
          · rfl
          by_cases h0 : kind = 0
          · exact .inl h0
          · by_cases h1 : kind = 255
            · exact .inr (.inl h1)
            · have e0 : ¬ kind.toNat = 0 := fun e => h0 (UInt8.toNat_inj.1 e)
              have e1 : ¬ kind.toNat = 255 := fun e => h1 (UInt8.toNat_inj.1 e)
              exact .inr (.inr (by omega)))
        clear hf
        go_wp2_with fail
        ((with_reducible refine (k1 _).mono ?_); rintro e w' ⟨rfl, rfl⟩)
        go_wp2_with (with_reducible refine wpl_pstore (.tmp 4) (.tmp 26) rfl rfl R0.out rfl pzeros_length rfl ?_; intro w4 R4 g4 e4)
        (try simp only [Exit.inBlock, Exit.then])
        refine bodyPost_ret (pret2 rfl _ R4 rfl) rfl ?_
        rw [HW.out]
        exact ⟨rfl, B0.out.grown g4 (by simp) (fun k e => by cases e; exact Nat.le_refl _)⟩
end Go.Proofs.YtnclefdlmbkjmaaDoor

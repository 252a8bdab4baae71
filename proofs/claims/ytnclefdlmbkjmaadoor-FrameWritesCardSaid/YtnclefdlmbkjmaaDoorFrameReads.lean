/- The walk of FrameReads: it answers true, and changes nothing that was there. Condition: the table holds its sixteen numbers. -/
import Derived.Test.YtnclefdlmbkjmaaDoorFrameSpeaks
namespace Go.Proofs.YtnclefdlmbkjmaaDoor
open Go.RowKit
/-- a conversion of bytes to a text in a region that draws its order: it may be taken first -/
theorem yields_conv {P : Program} {ops : Array Oper} {o : Oper} {a : Act} {S : World → Prop} {src dst : TypeId} {v u : Value} (x : Operand) (ho : o.op = .convert src dst x) (hgd : Region.wanted o (yielded ops a.tmps) = true)
    (hx : a.eval x = v) (hS : ∀ w, S w → (convert src dst v).run P w = .ok u w) : YieldsIf P ops S o u a :=
  .inl ⟨hgd, fun w hw => by
    unfold execOp
    simp only [ho, hx, Sem.run_bind, Sem.run_pure, Result.andThen_ok, hS w hw]⟩
set_option maxRecDepth 100000 in
set_option maxHeartbeats 2000000 in
theorem reads_main (L : List UInt8) (hL : L.length = 258) (w : World) (ht : Tab w) : Calls Tryd.prog 4 #[.agg (cl L)] w fun e w' => e = .returned (.bool true) ∧ Below w.heap.size w w' := by
  have HT := Lib.hid ht
  have A0 := Lib.hid (PArr.new w hL)
  have B0 : Hid (Below w.heap.size w (w.alloc (.cells (cl L) 26))) := Lib.hid ((Below.refl _ _).alloc (Nat.le_refl _) _)
  have k0 := speaks_any _ (HT.out.below B0.out HT.out.lt)
  clear ht
  go_enter Tryd.func4, Tryd.ntmps4
  go_wp2_with fail
  ((with_reducible refine k0.mono ?_); rintro e w2 ⟨rfl, hb2⟩)
  have A2 := Lib.hid (A0.out.after hb2)
  have B2 := Lib.hid (B0.out.trans (hb2.mono B0.out.size))
  clear A0 B0 hb2 k0
  have k1 := read_any L hL _ (HT.out.below B2.out HT.out.lt)
  go_wp2_with (with_reducible refine wpl_pload (.tmp 1) rfl rfl A2.out rfl ?_)
  ((with_reducible refine k1.mono ?_); rintro e w3 ⟨v1, rfl, Y3, hb3⟩)
  have A3 := Lib.hid (A2.out.after hb3)
  have B3 := Lib.hid (B2.out.trans (hb3.mono B2.out.size))
  clear A2 B2 hb3 k1
  have k2 := refRead_any L hL w3
  go_wp2_with (with_reducible refine wpl_pload (.tmp 1) rfl rfl A3.out rfl ?_)
  ((with_reducible refine k2.mono ?_); rintro e w4 ⟨v2, rfl, Y4, hb4⟩)
  have A4 := Lib.hid (A3.out.after hb4)
  have B4 := Lib.hid (B3.out.trans (hb4.mono B3.out.size))
  have Y3' := Lib.hid (Y3.below hb4)
  have hz34 := hb4.size
  clear A3 B3 hb4 k2 Y3
  obtain ⟨R, hR⟩ : ∃ R, R = FM.readM L := ⟨_, rfl⟩
  rw [← hR] at Y3' Y4 ⊢
  obtain ⟨rk, rb, rn, re⟩ := R
  obtain ⟨bk, hbk⟩ : ∃ bk, bk = FM.blank L := ⟨_, rfl⟩
  have k3 := blank_any L hL
  have k4 := refBlank_any L hL
  rw [← hbk] at k3 k4
  have HY4 := Lib.hid Y4
  have S0 : ∀ w', Below w4.heap.size w4 w' → (convert 24 9 v1).run Tryd.prog w' = .ok (.string ⟨rb.toArray⟩) w' := fun w' hb => str_of ((Y3'.out.more hz34).below hb)
  have S5 : ∀ w', Below w4.heap.size w4 w' → (convert 24 9 v2).run Tryd.prog w' = .ok (.string ⟨rb.toArray⟩) w' := fun w' hb => str_of (HY4.out.below hb)
  have S6 : ∀ w', Below w4.heap.size w4 w' → PArr w' w.heap.size L := fun w' hb => A4.out.after hb
  have A5 : Below w4.heap.size w4 w4.drew := (Below.refl _ _).drew
  have HS0 := Lib.hid S0
  have HS5 := Lib.hid S5
  have HS6 := Lib.hid S6
  clear hR hbk Y3' Y4 HY4 S0 S5 S6
  simp only
  go_wp2_with fail
  refine wp_region_held_drew (S := fun w' => Below w4.heap.size w4 w') (by kernel_rfl) A5 (fun _ => ?_)
  refine wpAnyH_take (i := 0) (v := .int .u8 ((rk.toNat : Nat) : Int)) rfl (by kernel_rfl) (by kernel_rfl) (by kernel_rfl) (fun _ _ _ h => h) (Or.inl ⟨by kernel_rfl, fun w _ => by go_simp⟩) A5 ?_
  refine wpAnyH_take (i := 1) (v := .int .u8 ((rk.toNat : Nat) : Int)) rfl (by kernel_rfl) (by kernel_rfl) (by kernel_rfl) (fun _ _ _ h => h) (Or.inl ⟨by kernel_rfl, fun w _ => by go_simp⟩) A5 ?_
  refine wpAnyH_take (i := 2) (v := .bool true) rfl (by kernel_rfl) (by kernel_rfl) (by kernel_rfl) (fun _ _ _ h => h) (Or.inl ⟨by kernel_rfl, fun w _ => by go_simp⟩) A5 ?_
  refine wpAnyH_take (i := 3) (v := .bool true) rfl (by kernel_rfl) (by kernel_rfl) (by kernel_rfl) (fun _ _ _ h => h) (Or.inl ⟨by kernel_rfl, fun w _ => by go_simp⟩) A5 ?_
  refine wpAnyH_take (i := 4) (v := v1) rfl (by kernel_rfl) (by kernel_rfl) (by kernel_rfl) (fun _ _ _ h => h) (Or.inl ⟨by kernel_rfl, fun w _ => by go_simp⟩) A5 ?_
  refine wpAnyH_take (i := 5) (v := .string ⟨rb.toArray⟩) rfl (by kernel_rfl) (by kernel_rfl) (by kernel_rfl) (fun _ _ _ h => h) (yields_conv (src := 24) (dst := 9) (v := v1) (.tmp 31) (by kernel_rfl) (by kernel_rfl) (by kernel_rfl) HS0.out) A5 ?_
  refine wpAnyH_take (i := 6) (v := v2) rfl (by kernel_rfl) (by kernel_rfl) (by kernel_rfl) (fun _ _ _ h => h) (Or.inl ⟨by kernel_rfl, fun w _ => by go_simp⟩) A5 ?_
  refine wpAnyH_take (i := 7) (v := .string ⟨rb.toArray⟩) rfl (by kernel_rfl) (by kernel_rfl) (by kernel_rfl) (fun _ _ _ h => h) (yields_conv (src := 24) (dst := 9) (v := v2) (.tmp 33) (by kernel_rfl) (by kernel_rfl) (by kernel_rfl) HS5.out) A5 ?_
  refine wpAnyH_take (i := 8) (v := .bool true) rfl (by kernel_rfl) (by kernel_rfl) (by kernel_rfl) (fun _ _ _ h => h) (Or.inl ⟨by kernel_rfl, fun w _ => by go_simp⟩) A5 ?_
  refine wpAnyH_take (i := 9) (v := .bool true) rfl (by kernel_rfl) (by kernel_rfl) (by kernel_rfl) (fun _ _ _ h => h) (Or.inl ⟨by kernel_rfl, fun w _ => by go_simp⟩) A5 ?_
  refine wpAnyH_take (i := 10) (v := .bool true) rfl (by kernel_rfl) (by kernel_rfl) (by kernel_rfl) (fun _ _ _ h => h) (Or.inl ⟨by kernel_rfl, fun w _ => by go_simp⟩) A5 ?_
  refine wpAnyH_take (i := 11) (v := .int .i64 (rn : Int)) rfl (by kernel_rfl) (by kernel_rfl) (by kernel_rfl) (fun _ _ _ h => h) (Or.inl ⟨by kernel_rfl, fun w _ => by go_simp⟩) A5 ?_
  refine wpAnyH_take (i := 12) (v := .int .i64 (rn : Int)) rfl (by kernel_rfl) (by kernel_rfl) (by kernel_rfl) (fun _ _ _ h => h) (Or.inl ⟨by kernel_rfl, fun w _ => by go_simp⟩) A5 ?_
  refine wpAnyH_take (i := 13) (v := .bool true) rfl (by kernel_rfl) (by kernel_rfl) (by kernel_rfl) (fun _ _ _ h => h) (Or.inl ⟨by kernel_rfl, fun w _ => by go_simp⟩) A5 ?_
  refine wpAnyH_take (i := 14) (v := .bool true) rfl (by kernel_rfl) (by kernel_rfl) (by kernel_rfl) (fun _ _ _ h => h) (Or.inl ⟨by kernel_rfl, fun w _ => by go_simp⟩) A5 ?_
  refine wpAnyH_take (i := 15) (v := .bool true) rfl (by kernel_rfl) (by kernel_rfl) (by kernel_rfl) (fun _ _ _ h => h) (Or.inl ⟨by kernel_rfl, fun w _ => by go_simp⟩) A5 ?_
  refine wpAnyH_take (i := 16) (v := .int .i64 (re : Int)) rfl (by kernel_rfl) (by kernel_rfl) (by kernel_rfl) (fun _ _ _ h => h) (Or.inl ⟨by kernel_rfl, fun w _ => by go_simp⟩) A5 ?_
  refine wpAnyH_take (i := 17) (v := .int .i64 (re : Int)) rfl (by kernel_rfl) (by kernel_rfl) (by kernel_rfl) (fun _ _ _ h => h) (Or.inl ⟨by kernel_rfl, fun w _ => by go_simp⟩) A5 ?_
  refine wpAnyH_take (i := 18) (v := .bool true) rfl (by kernel_rfl) (by kernel_rfl) (by kernel_rfl) (fun _ _ _ h => h) (Or.inl ⟨by kernel_rfl, fun w _ => by go_simp⟩) A5 ?_
  refine wpAnyH_take (i := 19) (v := .bool true) rfl (by kernel_rfl) (by kernel_rfl) (by kernel_rfl) (fun _ _ _ h => h) (Or.inl ⟨by kernel_rfl, fun w _ => by go_simp⟩) A5 ?_
  refine wpAnyH_take (i := 20) (v := .bool true) rfl (by kernel_rfl) (by kernel_rfl) (by kernel_rfl) (fun _ _ _ h => h) (Or.inl ⟨by kernel_rfl, fun w _ => by go_simp⟩) A5 ?_
  refine wpAnyH_take (i := 21) (v := .agg (cl L)) rfl (by kernel_rfl) (by kernel_rfl) (by kernel_rfl) (fun _ _ _ h => h) (yields_pload (g := w.heap.size) (.tmp 1) (by kernel_rfl) (by kernel_rfl) (by kernel_rfl) HS6.out) A5 ?_
  refine wpAnyH_take (i := 23) (v := .agg (cl L)) rfl (by kernel_rfl) (by kernel_rfl) (by kernel_rfl) (fun _ _ _ h => h) (yields_pload (g := w.heap.size) (.tmp 1) (by kernel_rfl) (by kernel_rfl) (by kernel_rfl) HS6.out) A5 ?_
  refine wpAnyH_ready (rs := [22]) (by kernel_rfl) (by simp) (AllReadyH.cons rfl (fun K hK => ?_) AllReadyH.nil)
  go_simp
  ((with_reducible refine (k3 _).mono ?_); rintro e w5 ⟨rfl, hb5⟩)
  have b5 : Below w4.heap.size w4 w5 := A5.trans (hb5.mono A5.size)
  refine hK.out _ _ b5 (fun _ => ?_)
  clear hK K A5 hb5
  refine wpAnyH_ready (rs := [24]) (by kernel_rfl) (by simp) (AllReadyH.cons rfl (fun K hK => ?_) AllReadyH.nil)
  go_simp
  ((with_reducible refine (k4 _).mono ?_); rintro e w6 ⟨rfl, hb6⟩)
  have b6 : Below w4.heap.size w4 w6 := b5.trans (hb6.mono b5.size)
  refine hK.out _ _ b6 (fun _ => ?_)
  clear hK K b5 hb6
  refine wpAnyH_take (i := 25) (v := .bool true) rfl (by kernel_rfl) (by kernel_rfl) (by kernel_rfl) (fun _ _ _ h => h) (Or.inl ⟨by kernel_rfl, fun w _ => by go_simp⟩) b6 ?_
  refine wpAnyH_take (i := 26) (v := .bool true) rfl (by kernel_rfl) (by kernel_rfl) (by kernel_rfl) (fun _ _ _ h => h) (Or.inl ⟨by kernel_rfl, fun w _ => by go_simp⟩) b6 ?_
  refine wpAnyH_ready (rs := [27]) (by kernel_rfl) (by simp) (AllReadyH.cons rfl (fun K hK => ?_) AllReadyH.nil)
  go_simp
  refine hK.out _ _ b6 (fun _ => ?_)
  clear hK K
  refine wpAnyH_done (by kernel_rfl) ?_ _
  go_wp2_with fail
  go_ret
  exact ⟨rfl, B4.out.trans (b6.mono B4.out.size)⟩
theorem frameReads_any (v : Value) (w : World) (ht : Tab w) (h : ∃ L : List UInt8, v = .agg (cl L) ∧ L.length = 258) : Calls Tryd.prog 4 #[v] w fun e w' => e = .returned (.bool true) ∧ Below w.heap.size w w' := by
  obtain ⟨L, rfl, hL⟩ := h
  exact reads_main L hL w ht
end Go.Proofs.YtnclefdlmbkjmaaDoor

/- Layer 10: the contracts of least, for each order of loads. No condition but that the loads are there. -/
import Derived.Test.YtdmganpblkepfaaWearB
namespace Go.Proofs.Ytdmganpblkepfaa
open Go.RowKit WM
theorem at_get {L : List LV} {k : Nat} (h : k < L.length) : L[k]? = some (at_ L k) := by
  unfold at_
  rw [List.getD_eq_getElem?_getD, List.getElem?_eq_getElem h]
  rfl
theorem newer_neg (x y : LV) : decide (cmp3 (y.seq : Int) (x.seq : Int) < 0) = newer x y := by
  rw [cmp3_neg, newer, decide_eq_decide]
  omega
theorem lessWorn_neg (x y : LV) : decide (cmp3 (x.wear : Int) (y.wear : Int) < 0) = lessWorn x y := by
  rw [cmp3_neg, lessWorn, decide_eq_decide]
  omega
theorem moreWorn_neg (x y : LV) : decide (cmp3 (y.wear : Int) (x.wear : Int) < 0) = moreWorn x y := by
  rw [cmp3_neg, moreWorn, decide_eq_decide]
  omega
theorem least_none (fv : Value) (A : Option Addr) (c : Nat) (w : World) : Calls Try.prog 43 #[.slice A 0 c, fv] w fun e w' => e = .returned (.tuple #[.int .i64 0, .bool false]) ∧ w = w' := by
  go_enter Try.func43, Try.ntmps43
  go_wp2
  go_ret2
  exact ⟨rfl, rfl⟩
set_option maxRecDepth 100000 in
set_option maxHeartbeats 8000000 in
theorem least_newer (A : Option Addr) (L : List LV) (c : Nat) (w : World) (B : Nat) (hB : B ≤ w.heap.size) (hr : Row w B A (L.flatMap mrow)) (hl : L.length ≤ 1000) (h0 : 0 < L.length) :
    Calls Try.prog 43 #[.slice A L.length c, .func (.func 44) #[] #[]] w fun e w' => e = .returned (.tuple #[.int .i64 (lfold (fun i j => newer (at_ L i) (at_ L j)) L.length : Nat), .bool true]) ∧ Below w.heap.size w w' := by
  have HR := Lib.hid hr
  have d0 : ((L.length : Int) == 0) = false := by rw [beq_eq_false_iff_ne]; omega
  clear hr
  go_enter Try.func43, Try.ntmps43
  go_wp2
  clear d0
  go_loopw [6, 13] (fun f i wr => ∃ k : Nat, k ≤ L.length ∧ i = .int .i64 k ∧ (∃ m : Nat, f = .int .i64 m ∧ Hid (m = lfold (fun i j => newer (at_ L i) (at_ L j)) k)) ∧ Hid (Below w.heap.size w wr)) (fun _ i _ => L.length - (intOf i).toNat)
  case atStart => exact ⟨0, Nat.zero_le _, rfl, ⟨0, rfl, Lib.hid rfl⟩, Lib.hid (Below.refl _ _)⟩
  case round =>
    rename_i wr
    obtain ⟨k, hk, rfl, ⟨m, rfl, hm⟩, hb⟩ := hrel
    by_cases hlt : k < L.length
    · have hml : m < L.length := by rw [hm.out]; exact lfold_lt _ (by omega) h0
      obtain ⟨a, rfl, hab, hck⟩ := HR.out.elem mrow_len (by omega) (at_get hlt)
      obtain ⟨a', e', _, hcm⟩ := HR.out.elem mrow_len (by omega) (at_get hml)
      cases e'
      obtain ⟨x, hx⟩ : ∃ x, x = at_ L k := ⟨_, rfl⟩
      obtain ⟨y, hy⟩ : ∃ y, y = at_ L m := ⟨_, rfl⟩
      rw [← hx] at hck
      rw [← hy] at hcm
      have HCK := Lib.hid (show ∀ w', Below w.heap.size w w' → ∀ j u, (mrow x)[j]? = some u → w'.cell? ((a.add (k * 5)).add j) = some u from fun w' h j u hu => (h.cell (p := (a.add (k * 5)).add j) (by rw [add_block, add_block]; omega)).trans (hck j u hu))
      have HCM := Lib.hid (show ∀ w', Below w.heap.size w w' → ∀ j u, (mrow y)[j]? = some u → w'.cell? ((a.add (m * 5)).add j) = some u from fun w' h j u hu => (h.cell (p := (a.add (m * 5)).add j) (by rw [add_block, add_block]; omega)).trans (hcm j u hu))
      have HX := Lib.hid hx
      have HY := Lib.hid hy
      have hlr := Lib.hid (mrow_len x)
      have hlr2 := Lib.hid (mrow_len y)
      have KF' := fun w => newer_any x y w
      have HN := newer_neg x y
      obtain ⟨rx, hrx⟩ : ∃ rx, rx = mrow x := ⟨_, rfl⟩
      obtain ⟨ry, hry⟩ : ∃ ry, ry = mrow y := ⟨_, rfl⟩
      rw [← hrx, ← hry] at KF'
      rw [← hrx] at HCK hlr
      rw [← hry] at HCM hlr2
      clear hck hcm hx hy hrx hry
      obtain ⟨r, hr⟩ : ∃ r, r = newer x y := ⟨_, rfl⟩
      have HR2 := Lib.hid hr
      rw [← hr] at HN
      clear hr
      generalize cmp3 (y.seq : Int) (x.seq : Int) = z at KF' HN
      have KF := Lib.hid KF'
      have hr := HN
      clear KF' HN
      go_wp2_with fail
      have S0 : Below w.heap.size w wr.drew := hb.out.drew
      refine wp_region_held_drew (S := (fun w' => Below w.heap.size w w')) (by kernel_rfl) S0 (fun _ => ?_)
      refine wpAnyH_take (i := 0) (v := .func (.func 44) #[] #[]) rfl (by kernel_rfl) (by kernel_rfl) (by kernel_rfl) (fun _ _ _ h => h) (Or.inl ⟨by kernel_rfl, fun w _ => by go_simp⟩) S0 ?_
      refine wpAnyH_take (i := 1) (v := .slice (some a) L.length c) rfl (by kernel_rfl) (by kernel_rfl) (by kernel_rfl) (fun _ _ _ h => h) (Or.inl ⟨by kernel_rfl, fun w _ => by go_simp⟩) S0 ?_
      refine wpAnyH_take (i := 2) (v := .int .i64 (k : Int)) rfl (by kernel_rfl) (by kernel_rfl) (by kernel_rfl) (fun _ _ _ h => h) (Or.inl ⟨by kernel_rfl, fun w _ => by go_simp⟩) S0 ?_
      refine wpAnyH_take (i := 3) (v := .pointer (some (a.add (k * 5)))) rfl (by kernel_rfl) (by kernel_rfl) (by kernel_rfl) (fun _ _ _ h => h) (Or.inl ⟨by kernel_rfl, fun w _ => by go_simp⟩) S0 ?_
      refine wpAnyH_take (i := 4) (v := .agg rx.toArray) rfl (by kernel_rfl) (by kernel_rfl) (by kernel_rfl) (fun _ _ _ h => h) (yields_cells (q := a.add (k * 5)) aggL sizeL (.tmp 19) (by kernel_rfl) (by kernel_rfl) (by kernel_rfl) hlr.out HCK.out) S0 ?_
      refine wpAnyH_take (i := 5) (v := .slice (some a) L.length c) rfl (by kernel_rfl) (by kernel_rfl) (by kernel_rfl) (fun _ _ _ h => h) (Or.inl ⟨by kernel_rfl, fun w _ => by go_simp⟩) S0 ?_
      refine wpAnyH_take (i := 6) (v := .int .i64 (m : Int)) rfl (by kernel_rfl) (by kernel_rfl) (by kernel_rfl) (fun _ _ _ h => h) (Or.inl ⟨by kernel_rfl, fun w _ => by go_simp⟩) S0 ?_
      refine wpAnyH_take (i := 7) (v := .pointer (some (a.add (m * 5)))) rfl (by kernel_rfl) (by kernel_rfl) (by kernel_rfl) (fun _ _ _ h => h) (Or.inl ⟨by kernel_rfl, fun w _ => by go_simp⟩) S0 ?_
      refine wpAnyH_take (i := 8) (v := .agg ry.toArray) rfl (by kernel_rfl) (by kernel_rfl) (by kernel_rfl) (fun _ _ _ h => h) (yields_cells (q := a.add (m * 5)) aggL sizeL (.tmp 23) (by kernel_rfl) (by kernel_rfl) (by kernel_rfl) hlr2.out HCM.out) S0 ?_
      refine wpAnyH_ready (rs := [9]) (by kernel_rfl) (by simp) (AllReadyH.cons rfl (fun K hK => ?_) AllReadyH.nil)
      go_simp
      ((with_reducible refine (KF.out _).mono ?_); rintro x2 w2 ⟨rfl, h2⟩)
      have S1 := Lib.hid (S0.trans (h2.mono S0.size))
      refine hK.out _ _ S1.out (fun _ => ?_)
      clear hK K h2 S0
      refine wpAnyH_take (i := 10) (v := .bool r) rfl (by kernel_rfl) (by kernel_rfl) (by kernel_rfl) (fun _ _ _ h => h) (Or.inl ⟨by kernel_rfl, fun w _ => by go_simp⟩) S1.out ?_
      refine wpAnyH_done (by kernel_rfl) ?_ _
      clear hr
      have hnext : Hid (∀ b, r = b → lfold (fun i j => newer (at_ L i) (at_ L j)) (k + 1) = if b = true then k else m) := Lib.hid fun b hb => by
        have e : lfold (fun i j => newer (at_ L i) (at_ L j)) (k + 1) = if newer (at_ L k) (at_ L (lfold (fun i j => newer (at_ L i) (at_ L j)) k)) = true then k else lfold (fun i j => newer (at_ L i) (at_ L j)) k := rfl
        rw [e, ← hm.out, ← HX.out, ← HY.out, ← HR2.out, hb]
      cases r
      · go_wp2
        go_roundw
        case rel => exact ⟨k + 1, by omega, by go_num, ⟨m, rfl, Lib.hid (by rw [hnext.out false rfl]; rfl)⟩, S1⟩
        case measure => simp [intOf]; omega
      · go_wp2
        go_roundw
        case rel => exact ⟨k + 1, by omega, by go_num, ⟨k, rfl, Lib.hid (by rw [hnext.out true rfl]; rfl)⟩, S1⟩
        case measure => simp [intOf]; omega
    · obtain rfl : k = L.length := by omega
      go_wp2
      go_ret2
      rw [← hm.out]
      exact ⟨rfl, hb.out⟩
set_option maxRecDepth 100000 in
set_option maxHeartbeats 8000000 in
theorem least_lessWorn (A : Option Addr) (L : List LV) (c : Nat) (w : World) (B : Nat) (hB : B ≤ w.heap.size) (hr : Row w B A (L.flatMap mrow)) (hl : L.length ≤ 1000) (h0 : 0 < L.length) :
    Calls Try.prog 43 #[.slice A L.length c, .func (.func 49) #[] #[]] w fun e w' => e = .returned (.tuple #[.int .i64 (lfold (fun i j => lessWorn (at_ L i) (at_ L j)) L.length : Nat), .bool true]) ∧ Below w.heap.size w w' := by
  have HR := Lib.hid hr
  have d0 : ((L.length : Int) == 0) = false := by rw [beq_eq_false_iff_ne]; omega
  clear hr
  go_enter Try.func43, Try.ntmps43
  go_wp2
  clear d0
  go_loopw [6, 13] (fun f i wr => ∃ k : Nat, k ≤ L.length ∧ i = .int .i64 k ∧ (∃ m : Nat, f = .int .i64 m ∧ Hid (m = lfold (fun i j => lessWorn (at_ L i) (at_ L j)) k)) ∧ Hid (Below w.heap.size w wr)) (fun _ i _ => L.length - (intOf i).toNat)
  case atStart => exact ⟨0, Nat.zero_le _, rfl, ⟨0, rfl, Lib.hid rfl⟩, Lib.hid (Below.refl _ _)⟩
  case round =>
    rename_i wr
    obtain ⟨k, hk, rfl, ⟨m, rfl, hm⟩, hb⟩ := hrel
    by_cases hlt : k < L.length
    · have hml : m < L.length := by rw [hm.out]; exact lfold_lt _ (by omega) h0
      obtain ⟨a, rfl, hab, hck⟩ := HR.out.elem mrow_len (by omega) (at_get hlt)
      obtain ⟨a', e', _, hcm⟩ := HR.out.elem mrow_len (by omega) (at_get hml)
      cases e'
      obtain ⟨x, hx⟩ : ∃ x, x = at_ L k := ⟨_, rfl⟩
      obtain ⟨y, hy⟩ : ∃ y, y = at_ L m := ⟨_, rfl⟩
      rw [← hx] at hck
      rw [← hy] at hcm
      have HCK := Lib.hid (show ∀ w', Below w.heap.size w w' → ∀ j u, (mrow x)[j]? = some u → w'.cell? ((a.add (k * 5)).add j) = some u from fun w' h j u hu => (h.cell (p := (a.add (k * 5)).add j) (by rw [add_block, add_block]; omega)).trans (hck j u hu))
      have HCM := Lib.hid (show ∀ w', Below w.heap.size w w' → ∀ j u, (mrow y)[j]? = some u → w'.cell? ((a.add (m * 5)).add j) = some u from fun w' h j u hu => (h.cell (p := (a.add (m * 5)).add j) (by rw [add_block, add_block]; omega)).trans (hcm j u hu))
      have HX := Lib.hid hx
      have HY := Lib.hid hy
      have hlr := Lib.hid (mrow_len x)
      have hlr2 := Lib.hid (mrow_len y)
      have KF' := fun w => lessWorn_any x y w
      have HN := lessWorn_neg x y
      obtain ⟨rx, hrx⟩ : ∃ rx, rx = mrow x := ⟨_, rfl⟩
      obtain ⟨ry, hry⟩ : ∃ ry, ry = mrow y := ⟨_, rfl⟩
      rw [← hrx, ← hry] at KF'
      rw [← hrx] at HCK hlr
      rw [← hry] at HCM hlr2
      clear hck hcm hx hy hrx hry
      obtain ⟨r, hr⟩ : ∃ r, r = lessWorn x y := ⟨_, rfl⟩
      have HR2 := Lib.hid hr
      rw [← hr] at HN
      clear hr
      generalize cmp3 (x.wear : Int) (y.wear : Int) = z at KF' HN
      have KF := Lib.hid KF'
      have hr := HN
      clear KF' HN
      go_wp2_with fail
      have S0 : Below w.heap.size w wr.drew := hb.out.drew
      refine wp_region_held_drew (S := (fun w' => Below w.heap.size w w')) (by kernel_rfl) S0 (fun _ => ?_)
      refine wpAnyH_take (i := 0) (v := .func (.func 49) #[] #[]) rfl (by kernel_rfl) (by kernel_rfl) (by kernel_rfl) (fun _ _ _ h => h) (Or.inl ⟨by kernel_rfl, fun w _ => by go_simp⟩) S0 ?_
      refine wpAnyH_take (i := 1) (v := .slice (some a) L.length c) rfl (by kernel_rfl) (by kernel_rfl) (by kernel_rfl) (fun _ _ _ h => h) (Or.inl ⟨by kernel_rfl, fun w _ => by go_simp⟩) S0 ?_
      refine wpAnyH_take (i := 2) (v := .int .i64 (k : Int)) rfl (by kernel_rfl) (by kernel_rfl) (by kernel_rfl) (fun _ _ _ h => h) (Or.inl ⟨by kernel_rfl, fun w _ => by go_simp⟩) S0 ?_
      refine wpAnyH_take (i := 3) (v := .pointer (some (a.add (k * 5)))) rfl (by kernel_rfl) (by kernel_rfl) (by kernel_rfl) (fun _ _ _ h => h) (Or.inl ⟨by kernel_rfl, fun w _ => by go_simp⟩) S0 ?_
      refine wpAnyH_take (i := 4) (v := .agg rx.toArray) rfl (by kernel_rfl) (by kernel_rfl) (by kernel_rfl) (fun _ _ _ h => h) (yields_cells (q := a.add (k * 5)) aggL sizeL (.tmp 19) (by kernel_rfl) (by kernel_rfl) (by kernel_rfl) hlr.out HCK.out) S0 ?_
      refine wpAnyH_take (i := 5) (v := .slice (some a) L.length c) rfl (by kernel_rfl) (by kernel_rfl) (by kernel_rfl) (fun _ _ _ h => h) (Or.inl ⟨by kernel_rfl, fun w _ => by go_simp⟩) S0 ?_
      refine wpAnyH_take (i := 6) (v := .int .i64 (m : Int)) rfl (by kernel_rfl) (by kernel_rfl) (by kernel_rfl) (fun _ _ _ h => h) (Or.inl ⟨by kernel_rfl, fun w _ => by go_simp⟩) S0 ?_
      refine wpAnyH_take (i := 7) (v := .pointer (some (a.add (m * 5)))) rfl (by kernel_rfl) (by kernel_rfl) (by kernel_rfl) (fun _ _ _ h => h) (Or.inl ⟨by kernel_rfl, fun w _ => by go_simp⟩) S0 ?_
      refine wpAnyH_take (i := 8) (v := .agg ry.toArray) rfl (by kernel_rfl) (by kernel_rfl) (by kernel_rfl) (fun _ _ _ h => h) (yields_cells (q := a.add (m * 5)) aggL sizeL (.tmp 23) (by kernel_rfl) (by kernel_rfl) (by kernel_rfl) hlr2.out HCM.out) S0 ?_
      refine wpAnyH_ready (rs := [9]) (by kernel_rfl) (by simp) (AllReadyH.cons rfl (fun K hK => ?_) AllReadyH.nil)
      go_simp
      ((with_reducible refine (KF.out _).mono ?_); rintro x2 w2 ⟨rfl, h2⟩)
      have S1 := Lib.hid (S0.trans (h2.mono S0.size))
      refine hK.out _ _ S1.out (fun _ => ?_)
      clear hK K h2 S0
      refine wpAnyH_take (i := 10) (v := .bool r) rfl (by kernel_rfl) (by kernel_rfl) (by kernel_rfl) (fun _ _ _ h => h) (Or.inl ⟨by kernel_rfl, fun w _ => by go_simp⟩) S1.out ?_
      refine wpAnyH_done (by kernel_rfl) ?_ _
      clear hr
      have hnext : Hid (∀ b, r = b → lfold (fun i j => lessWorn (at_ L i) (at_ L j)) (k + 1) = if b = true then k else m) := Lib.hid fun b hb => by
        have e : lfold (fun i j => lessWorn (at_ L i) (at_ L j)) (k + 1) = if lessWorn (at_ L k) (at_ L (lfold (fun i j => lessWorn (at_ L i) (at_ L j)) k)) = true then k else lfold (fun i j => lessWorn (at_ L i) (at_ L j)) k := rfl
        rw [e, ← hm.out, ← HX.out, ← HY.out, ← HR2.out, hb]
      cases r
      · go_wp2
        go_roundw
        case rel => exact ⟨k + 1, by omega, by go_num, ⟨m, rfl, Lib.hid (by rw [hnext.out false rfl]; rfl)⟩, S1⟩
        case measure => simp [intOf]; omega
      · go_wp2
        go_roundw
        case rel => exact ⟨k + 1, by omega, by go_num, ⟨k, rfl, Lib.hid (by rw [hnext.out true rfl]; rfl)⟩, S1⟩
        case measure => simp [intOf]; omega
    · obtain rfl : k = L.length := by omega
      go_wp2
      go_ret2
      rw [← hm.out]
      exact ⟨rfl, hb.out⟩
set_option maxRecDepth 100000 in
set_option maxHeartbeats 8000000 in
theorem least_moreWorn (A : Option Addr) (L : List LV) (c : Nat) (w : World) (B : Nat) (hB : B ≤ w.heap.size) (hr : Row w B A (L.flatMap mrow)) (hl : L.length ≤ 1000) (h0 : 0 < L.length) :
    Calls Try.prog 43 #[.slice A L.length c, .func (.func 50) #[] #[]] w fun e w' => e = .returned (.tuple #[.int .i64 (lfold (fun i j => moreWorn (at_ L i) (at_ L j)) L.length : Nat), .bool true]) ∧ Below w.heap.size w w' := by
  have HR := Lib.hid hr
  have d0 : ((L.length : Int) == 0) = false := by rw [beq_eq_false_iff_ne]; omega
  clear hr
  go_enter Try.func43, Try.ntmps43
  go_wp2
  clear d0
  go_loopw [6, 13] (fun f i wr => ∃ k : Nat, k ≤ L.length ∧ i = .int .i64 k ∧ (∃ m : Nat, f = .int .i64 m ∧ Hid (m = lfold (fun i j => moreWorn (at_ L i) (at_ L j)) k)) ∧ Hid (Below w.heap.size w wr)) (fun _ i _ => L.length - (intOf i).toNat)
  case atStart => exact ⟨0, Nat.zero_le _, rfl, ⟨0, rfl, Lib.hid rfl⟩, Lib.hid (Below.refl _ _)⟩
  case round =>
    rename_i wr
    obtain ⟨k, hk, rfl, ⟨m, rfl, hm⟩, hb⟩ := hrel
    by_cases hlt : k < L.length
    · have hml : m < L.length := by rw [hm.out]; exact lfold_lt _ (by omega) h0
      obtain ⟨a, rfl, hab, hck⟩ := HR.out.elem mrow_len (by omega) (at_get hlt)
      obtain ⟨a', e', _, hcm⟩ := HR.out.elem mrow_len (by omega) (at_get hml)
      cases e'
      obtain ⟨x, hx⟩ : ∃ x, x = at_ L k := ⟨_, rfl⟩
      obtain ⟨y, hy⟩ : ∃ y, y = at_ L m := ⟨_, rfl⟩
      rw [← hx] at hck
      rw [← hy] at hcm
      have HCK := Lib.hid (show ∀ w', Below w.heap.size w w' → ∀ j u, (mrow x)[j]? = some u → w'.cell? ((a.add (k * 5)).add j) = some u from fun w' h j u hu => (h.cell (p := (a.add (k * 5)).add j) (by rw [add_block, add_block]; omega)).trans (hck j u hu))
      have HCM := Lib.hid (show ∀ w', Below w.heap.size w w' → ∀ j u, (mrow y)[j]? = some u → w'.cell? ((a.add (m * 5)).add j) = some u from fun w' h j u hu => (h.cell (p := (a.add (m * 5)).add j) (by rw [add_block, add_block]; omega)).trans (hcm j u hu))
      have HX := Lib.hid hx
      have HY := Lib.hid hy
      have hlr := Lib.hid (mrow_len x)
      have hlr2 := Lib.hid (mrow_len y)
      have KF' := fun w => moreWorn_any x y w
      have HN := moreWorn_neg x y
      obtain ⟨rx, hrx⟩ : ∃ rx, rx = mrow x := ⟨_, rfl⟩
      obtain ⟨ry, hry⟩ : ∃ ry, ry = mrow y := ⟨_, rfl⟩
      rw [← hrx, ← hry] at KF'
      rw [← hrx] at HCK hlr
      rw [← hry] at HCM hlr2
      clear hck hcm hx hy hrx hry
      obtain ⟨r, hr⟩ : ∃ r, r = moreWorn x y := ⟨_, rfl⟩
      have HR2 := Lib.hid hr
      rw [← hr] at HN
      clear hr
      generalize cmp3 (y.wear : Int) (x.wear : Int) = z at KF' HN
      have KF := Lib.hid KF'
      have hr := HN
      clear KF' HN
      go_wp2_with fail
      have S0 : Below w.heap.size w wr.drew := hb.out.drew
      refine wp_region_held_drew (S := (fun w' => Below w.heap.size w w')) (by kernel_rfl) S0 (fun _ => ?_)
      refine wpAnyH_take (i := 0) (v := .func (.func 50) #[] #[]) rfl (by kernel_rfl) (by kernel_rfl) (by kernel_rfl) (fun _ _ _ h => h) (Or.inl ⟨by kernel_rfl, fun w _ => by go_simp⟩) S0 ?_
      refine wpAnyH_take (i := 1) (v := .slice (some a) L.length c) rfl (by kernel_rfl) (by kernel_rfl) (by kernel_rfl) (fun _ _ _ h => h) (Or.inl ⟨by kernel_rfl, fun w _ => by go_simp⟩) S0 ?_
      refine wpAnyH_take (i := 2) (v := .int .i64 (k : Int)) rfl (by kernel_rfl) (by kernel_rfl) (by kernel_rfl) (fun _ _ _ h => h) (Or.inl ⟨by kernel_rfl, fun w _ => by go_simp⟩) S0 ?_
      refine wpAnyH_take (i := 3) (v := .pointer (some (a.add (k * 5)))) rfl (by kernel_rfl) (by kernel_rfl) (by kernel_rfl) (fun _ _ _ h => h) (Or.inl ⟨by kernel_rfl, fun w _ => by go_simp⟩) S0 ?_
      refine wpAnyH_take (i := 4) (v := .agg rx.toArray) rfl (by kernel_rfl) (by kernel_rfl) (by kernel_rfl) (fun _ _ _ h => h) (yields_cells (q := a.add (k * 5)) aggL sizeL (.tmp 19) (by kernel_rfl) (by kernel_rfl) (by kernel_rfl) hlr.out HCK.out) S0 ?_
      refine wpAnyH_take (i := 5) (v := .slice (some a) L.length c) rfl (by kernel_rfl) (by kernel_rfl) (by kernel_rfl) (fun _ _ _ h => h) (Or.inl ⟨by kernel_rfl, fun w _ => by go_simp⟩) S0 ?_
      refine wpAnyH_take (i := 6) (v := .int .i64 (m : Int)) rfl (by kernel_rfl) (by kernel_rfl) (by kernel_rfl) (fun _ _ _ h => h) (Or.inl ⟨by kernel_rfl, fun w _ => by go_simp⟩) S0 ?_
      refine wpAnyH_take (i := 7) (v := .pointer (some (a.add (m * 5)))) rfl (by kernel_rfl) (by kernel_rfl) (by kernel_rfl) (fun _ _ _ h => h) (Or.inl ⟨by kernel_rfl, fun w _ => by go_simp⟩) S0 ?_
      refine wpAnyH_take (i := 8) (v := .agg ry.toArray) rfl (by kernel_rfl) (by kernel_rfl) (by kernel_rfl) (fun _ _ _ h => h) (yields_cells (q := a.add (m * 5)) aggL sizeL (.tmp 23) (by kernel_rfl) (by kernel_rfl) (by kernel_rfl) hlr2.out HCM.out) S0 ?_
      refine wpAnyH_ready (rs := [9]) (by kernel_rfl) (by simp) (AllReadyH.cons rfl (fun K hK => ?_) AllReadyH.nil)
      go_simp
      ((with_reducible refine (KF.out _).mono ?_); rintro x2 w2 ⟨rfl, h2⟩)
      have S1 := Lib.hid (S0.trans (h2.mono S0.size))
      refine hK.out _ _ S1.out (fun _ => ?_)
      clear hK K h2 S0
      refine wpAnyH_take (i := 10) (v := .bool r) rfl (by kernel_rfl) (by kernel_rfl) (by kernel_rfl) (fun _ _ _ h => h) (Or.inl ⟨by kernel_rfl, fun w _ => by go_simp⟩) S1.out ?_
      refine wpAnyH_done (by kernel_rfl) ?_ _
      clear hr
      have hnext : Hid (∀ b, r = b → lfold (fun i j => moreWorn (at_ L i) (at_ L j)) (k + 1) = if b = true then k else m) := Lib.hid fun b hb => by
        have e : lfold (fun i j => moreWorn (at_ L i) (at_ L j)) (k + 1) = if moreWorn (at_ L k) (at_ L (lfold (fun i j => moreWorn (at_ L i) (at_ L j)) k)) = true then k else lfold (fun i j => moreWorn (at_ L i) (at_ L j)) k := rfl
        rw [e, ← hm.out, ← HX.out, ← HY.out, ← HR2.out, hb]
      cases r
      · go_wp2
        go_roundw
        case rel => exact ⟨k + 1, by omega, by go_num, ⟨m, rfl, Lib.hid (by rw [hnext.out false rfl]; rfl)⟩, S1⟩
        case measure => simp [intOf]; omega
      · go_wp2
        go_roundw
        case rel => exact ⟨k + 1, by omega, by go_num, ⟨k, rfl, Lib.hid (by rw [hnext.out true rfl]; rfl)⟩, S1⟩
        case measure => simp [intOf]; omega
    · obtain rfl : k = L.length := by omega
      go_wp2
      go_ret2
      rw [← hm.out]
      exact ⟨rfl, hb.out⟩
end Go.Proofs.Ytdmganpblkepfaa

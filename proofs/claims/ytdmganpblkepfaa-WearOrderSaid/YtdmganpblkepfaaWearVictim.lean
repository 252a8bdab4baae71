/- Layer 10: the contracts of Victim and Gap. No condition but that the loads are there. -/
import Derived.Test.YtdmganpblkepfaaWearLeast
namespace Go.Proofs.Ytdmganpblkepfaa
open Go.RowKit WM
theorem yields_slice {P : Program} {ops : Array Oper} {o : Oper} {a : Act} {S : World → Prop} {ty : TypeId} {p : Addr} {v : Value} (hag : ∀ w, (isAgg ty).run P w = .ok false w) (x : Operand) (ho : o.op = .load ty x) (hgd : Region.wanted o (yielded ops a.tmps) = true)
    (hx : a.eval x = .pointer (some p)) (hS : ∀ w, S w → w.cell? p = some v) : YieldsIf P ops S o v a :=
  .inl ⟨hgd, fun w hw => by
    have hs : (loadVar ty p).run P w = .ok v w := by
      simp [loadVar, Sem.run_bind, hag, run_load, hS w hw]
    unfold execOp
    simp only [ho, hx, Instr.loadAt, Instr.sureAddr, Sem.run_bind, Sem.run_pure, Result.andThen_ok, hs]⟩
set_option maxRecDepth 100000 in
set_option maxHeartbeats 8000000 in
theorem order_any (A : Option Addr) (L : List LV) (c g : Nat) (w : World) (B : Nat) (hr : Row w B A (L.flatMap mrow)) (hB : B ≤ w.heap.size) (hg : w.cell? ⟨g, 0, none⟩ = some (.slice A L.length c)) (hgl : g < w.heap.size) (i j : Nat) (hi : i < L.length) (hj : j < L.length) :
    Calls Try.prog 46 #[.int .i64 (i : Int), .int .i64 (j : Int), .pointer (some ⟨g, 0, none⟩)] w fun e w' => e = .returned (.int .i64 (soon3 (at_ L i) (at_ L j))) ∧ Below w.heap.size w w' := by
  obtain ⟨a, rfl, hab, hck⟩ := hr.elem mrow_len (by omega) (at_get hi)
  obtain ⟨a', e', _, hcm⟩ := hr.elem mrow_len (by omega) (at_get hj)
  cases e'
  obtain ⟨x, hx⟩ : ∃ x, x = at_ L i := ⟨_, rfl⟩
  obtain ⟨y, hy⟩ : ∃ y, y = at_ L j := ⟨_, rfl⟩
  rw [← hx] at hck ⊢
  rw [← hy] at hcm ⊢
  have HCK := Lib.hid (show ∀ w', Below w.heap.size w w' → ∀ j u, (mrow x)[j]? = some u → w'.cell? ((a.add (i * 5)).add j) = some u from fun w' h j u hu => (h.cell (p := (a.add (i * 5)).add j) (by rw [add_block, add_block]; omega)).trans (hck j u hu))
  have HCM := Lib.hid (show ∀ w', Below w.heap.size w w' → ∀ k u, (mrow y)[k]? = some u → w'.cell? ((a.add (j * 5)).add k) = some u from fun w' h k u hu => (h.cell (p := (a.add (j * 5)).add k) (by rw [add_block, add_block]; omega)).trans (hcm k u hu))
  have HG := Lib.hid (show ∀ w', Below w.heap.size w w' → w'.cell? ⟨g, 0, none⟩ = some (.slice (some a) L.length c) from fun w' h => (h.cell (p := ⟨g, 0, none⟩) hgl).trans hg)
  have hlr := Lib.hid (mrow_len x)
  have hlr2 := Lib.hid (mrow_len y)
  have KF' := fun w => sooner_any x y w
  obtain ⟨rx, hrx⟩ : ∃ rx, rx = mrow x := ⟨_, rfl⟩
  obtain ⟨ry, hry⟩ : ∃ ry, ry = mrow y := ⟨_, rfl⟩
  rw [← hrx, ← hry] at KF'
  rw [← hrx] at HCK hlr
  rw [← hry] at HCM hlr2
  have KF := Lib.hid KF'
  clear hck hcm hx hy hrx hry KF' hr hg
  go_enter Try.func46, Try.ntmps46
  go_wp2_with fail
  have S0 : Below w.heap.size w w.drew := (Below.refl _ _).drew
  refine wp_region_held_drew (S := (fun w' => Below w.heap.size w w')) (by kernel_rfl) S0 (fun _ => ?_)
  refine wpAnyH_take (i := 0) (v := .slice (some a) L.length c) rfl (by kernel_rfl) (by kernel_rfl) (by kernel_rfl) (fun _ _ _ h => h) (yields_slice (ty := 59) (p := ⟨g, 0, none⟩) (fun _ => by kernel_rfl) (.tmp 2) (by kernel_rfl) (by kernel_rfl) (by kernel_rfl) HG.out) S0 ?_
  refine wpAnyH_take (i := 1) (v := .int .i64 (i : Int)) rfl (by kernel_rfl) (by kernel_rfl) (by kernel_rfl) (fun _ _ _ h => h) (Or.inl ⟨by kernel_rfl, fun w _ => by go_simp⟩) S0 ?_
  refine wpAnyH_take (i := 2) (v := .pointer (some (a.add (i * 5)))) rfl (by kernel_rfl) (by kernel_rfl) (by kernel_rfl) (fun _ _ _ h => h) (Or.inl ⟨by kernel_rfl, fun w _ => by go_simp⟩) S0 ?_
  refine wpAnyH_take (i := 3) (v := .agg rx.toArray) rfl (by kernel_rfl) (by kernel_rfl) (by kernel_rfl) (fun _ _ _ h => h) (yields_cells (q := a.add (i * 5)) aggL sizeL (.tmp 8) (by kernel_rfl) (by kernel_rfl) (by kernel_rfl) hlr.out HCK.out) S0 ?_
  refine wpAnyH_take (i := 4) (v := .slice (some a) L.length c) rfl (by kernel_rfl) (by kernel_rfl) (by kernel_rfl) (fun _ _ _ h => h) (yields_slice (ty := 59) (p := ⟨g, 0, none⟩) (fun _ => by kernel_rfl) (.tmp 2) (by kernel_rfl) (by kernel_rfl) (by kernel_rfl) HG.out) S0 ?_
  refine wpAnyH_take (i := 5) (v := .int .i64 (j : Int)) rfl (by kernel_rfl) (by kernel_rfl) (by kernel_rfl) (fun _ _ _ h => h) (Or.inl ⟨by kernel_rfl, fun w _ => by go_simp⟩) S0 ?_
  refine wpAnyH_take (i := 6) (v := .pointer (some (a.add (j * 5)))) rfl (by kernel_rfl) (by kernel_rfl) (by kernel_rfl) (fun _ _ _ h => h) (Or.inl ⟨by kernel_rfl, fun w _ => by go_simp⟩) S0 ?_
  refine wpAnyH_take (i := 7) (v := .agg ry.toArray) rfl (by kernel_rfl) (by kernel_rfl) (by kernel_rfl) (fun _ _ _ h => h) (yields_cells (q := a.add (j * 5)) aggL sizeL (.tmp 12) (by kernel_rfl) (by kernel_rfl) (by kernel_rfl) hlr2.out HCM.out) S0 ?_
  refine wpAnyH_ready (rs := [8]) (by kernel_rfl) (by simp) (AllReadyH.cons rfl (fun K hK => ?_) AllReadyH.nil)
  go_simp
  ((with_reducible refine (KF.out _).mono ?_); rintro x2 w2 ⟨rfl, h2⟩)
  have S1 := Lib.hid (S0.trans (h2.mono S0.size))
  refine hK.out _ _ S1.out (fun _ => ?_)
  clear hK K h2 S0
  refine wpAnyH_ready (rs := [9]) (by kernel_rfl) (by simp) (AllReadyH.cons rfl (fun K hK => ?_) AllReadyH.nil)
  go_simp
  refine hK.out _ _ S1.out (fun _ => ?_)
  clear hK K
  refine wpAnyH_done (by kernel_rfl) ?_ _
  go_wp2
  go_ret
  exact ⟨rfl, S1.out⟩
def ivN (xs : List Nat) : List Value := xs.map fun z : Nat => Value.int .i64 (z : Int)
theorem leasti_none (fv : Value) (A : Option Addr) (c : Nat) (w : World) : Calls Try.prog 45 #[.slice A 0 c, fv] w fun e w' => e = .returned (.tuple #[.int .i64 0, .bool false]) ∧ w = w' := by
  go_enter Try.func45, Try.ntmps45
  go_wp2
  go_ret2
  exact ⟨rfl, rfl⟩
set_option maxRecDepth 100000 in
set_option maxHeartbeats 8000000 in
theorem leasti_any (A : Option Addr) (xs : List Nat) (c : Nat) (w : World) (B : Nat) (hB : B ≤ w.heap.size) (hr : Row w B A (ivN xs)) (hl : xs.length ≤ 1000) (h0 : 0 < xs.length) (g : Nat) (lt : Nat → Nat → Bool) (ord : Nat → Nat → Int) (hord : ∀ i j, decide (ord i j < 0) = lt i j)
    (KF : ∀ w', Below w.heap.size w w' → ∀ i j, i ∈ xs → j ∈ xs → Calls Try.prog 46 #[.int .i64 (i : Int), .int .i64 (j : Int), .pointer (some ⟨g, 0, none⟩)] w' fun e w'' => e = .returned (.int .i64 (ord i j)) ∧ Below w'.heap.size w' w'') :
    Calls Try.prog 45 #[.slice A xs.length c, .func (.func 46) #[] #[.pointer (some ⟨g, 0, none⟩)]] w fun e w' => e = .returned (.tuple #[.int .i64 (lfold (fun i j => lt (xs.getD i 0) (xs.getD j 0)) xs.length : Nat), .bool true]) ∧ Below w.heap.size w w' := by
  have HR := Lib.hid hr
  have HKF := Lib.hid KF
  have HO := Lib.hid hord
  have d0 : ((xs.length : Int) == 0) = false := by rw [beq_eq_false_iff_ne]; omega
  clear hr KF hord
  go_enter Try.func45, Try.ntmps45
  go_wp2
  clear d0
  go_loopw [6, 13] (fun f i wr => ∃ k : Nat, k ≤ xs.length ∧ i = .int .i64 k ∧ (∃ m : Nat, f = .int .i64 m ∧ Hid (m = lfold (fun i j => lt (xs.getD i 0) (xs.getD j 0)) k)) ∧ Hid (Below w.heap.size w wr)) (fun _ i _ => xs.length - (intOf i).toNat)
  case atStart => exact ⟨0, Nat.zero_le _, rfl, ⟨0, rfl, Lib.hid rfl⟩, Lib.hid (Below.refl _ _)⟩
  case round =>
    rename_i wr
    obtain ⟨k, hk, rfl, ⟨m, rfl, hm⟩, hb⟩ := hrel
    by_cases hlt : k < xs.length
    · have hml : m < xs.length := by rw [hm.out]; exact lfold_lt _ (by omega) h0
      obtain ⟨a, rfl, hab, hck⟩ := HR.out.at_ (k := k) (by simpa [ivN] using hlt)
      obtain ⟨a', e', _, hcm⟩ := HR.out.at_ (k := m) (by simpa [ivN] using hml)
      cases e'
      obtain ⟨x, hx⟩ : ∃ x, x = xs[k] := ⟨_, rfl⟩
      obtain ⟨y, hy⟩ : ∃ y, y = xs[m] := ⟨_, rfl⟩
      have ex : (ivN xs)[k]'(by simpa [ivN] using hlt) = .int .i64 (x : Int) := by rw [hx]; simp [ivN]
      have ey : (ivN xs)[m]'(by simpa [ivN] using hml) = .int .i64 (y : Int) := by rw [hy]; simp [ivN]
      rw [ex] at hck
      rw [ey] at hcm
      have gx : xs.getD k 0 = x := by rw [hx, List.getD_eq_getElem?_getD, List.getElem?_eq_getElem hlt]; rfl
      have gy : xs.getD m 0 = y := by rw [hy, List.getD_eq_getElem?_getD, List.getElem?_eq_getElem hml]; rfl
      have HX := Lib.hid gx
      have HY := Lib.hid gy
      have mx : x ∈ xs := by rw [hx]; exact List.getElem_mem _
      have my : y ∈ xs := by rw [hy]; exact List.getElem_mem _
      have HCK := Lib.hid (show ∀ w', Below w.heap.size w w' → w'.cell? (a.add k) = some (.int .i64 (x : Int)) from fun w' h => (h.cell (p := a.add k) (by rw [add_block]; omega)).trans hck)
      have HCM := Lib.hid (show ∀ w', Below w.heap.size w w' → w'.cell? (a.add m) = some (.int .i64 (y : Int)) from fun w' h => (h.cell (p := a.add m) (by rw [add_block]; omega)).trans hcm)
      have KF' := fun w' (h : Below w.heap.size w w') => HKF.out w' h x y mx my
      have HN := HO.out x y
      obtain ⟨r, hr⟩ : ∃ r, r = lt x y := ⟨_, rfl⟩
      have HR2 := Lib.hid hr
      rw [← hr] at HN
      generalize ord x y = z at KF' HN
      have KF := Lib.hid KF'
      clear hck hcm hx hy ex ey gx gy mx my KF' hr
      have hr := HN
      clear HN
      go_wp2_with fail
      have S0 : Below w.heap.size w wr.drew := hb.out.drew
      refine wp_region_held_drew (S := (fun w' => Below w.heap.size w w')) (by kernel_rfl) S0 (fun _ => ?_)
      refine wpAnyH_take (i := 0) (v := .func (.func 46) #[] #[.pointer (some ⟨g, 0, none⟩)]) rfl (by kernel_rfl) (by kernel_rfl) (by kernel_rfl) (fun _ _ _ h => h) (Or.inl ⟨by kernel_rfl, fun w _ => by go_simp⟩) S0 ?_
      refine wpAnyH_take (i := 1) (v := .slice (some a) xs.length c) rfl (by kernel_rfl) (by kernel_rfl) (by kernel_rfl) (fun _ _ _ h => h) (Or.inl ⟨by kernel_rfl, fun w _ => by go_simp⟩) S0 ?_
      refine wpAnyH_take (i := 2) (v := .int .i64 (k : Int)) rfl (by kernel_rfl) (by kernel_rfl) (by kernel_rfl) (fun _ _ _ h => h) (Or.inl ⟨by kernel_rfl, fun w _ => by go_simp⟩) S0 ?_
      refine wpAnyH_take (i := 3) (v := .pointer (some (a.add k))) rfl (by kernel_rfl) (by kernel_rfl) (by kernel_rfl) (fun _ _ _ h => h) (Or.inl ⟨by kernel_rfl, fun w _ => by go_simp⟩) S0 ?_
      refine wpAnyH_take (i := 4) (v := .int .i64 (x : Int)) rfl (by kernel_rfl) (by kernel_rfl) (by kernel_rfl) (fun _ _ _ h => h) (yields_slice (ty := 3) (p := a.add k) (fun _ => by kernel_rfl) (.tmp 19) (by kernel_rfl) (by kernel_rfl) (by kernel_rfl) HCK.out) S0 ?_
      refine wpAnyH_take (i := 5) (v := .slice (some a) xs.length c) rfl (by kernel_rfl) (by kernel_rfl) (by kernel_rfl) (fun _ _ _ h => h) (Or.inl ⟨by kernel_rfl, fun w _ => by go_simp⟩) S0 ?_
      refine wpAnyH_take (i := 6) (v := .int .i64 (m : Int)) rfl (by kernel_rfl) (by kernel_rfl) (by kernel_rfl) (fun _ _ _ h => h) (Or.inl ⟨by kernel_rfl, fun w _ => by go_simp⟩) S0 ?_
      refine wpAnyH_take (i := 7) (v := .pointer (some (a.add m))) rfl (by kernel_rfl) (by kernel_rfl) (by kernel_rfl) (fun _ _ _ h => h) (Or.inl ⟨by kernel_rfl, fun w _ => by go_simp⟩) S0 ?_
      refine wpAnyH_take (i := 8) (v := .int .i64 (y : Int)) rfl (by kernel_rfl) (by kernel_rfl) (by kernel_rfl) (fun _ _ _ h => h) (yields_slice (ty := 3) (p := a.add m) (fun _ => by kernel_rfl) (.tmp 23) (by kernel_rfl) (by kernel_rfl) (by kernel_rfl) HCM.out) S0 ?_
      refine wpAnyH_ready (rs := [9]) (by kernel_rfl) (by simp) (AllReadyH.cons rfl (fun K hK => ?_) AllReadyH.nil)
      go_simp
      ((with_reducible refine (KF.out _ S0).mono ?_); rintro x2 w2 ⟨rfl, h2⟩)
      have S1 := Lib.hid (S0.trans (h2.mono S0.size))
      refine hK.out _ _ S1.out (fun _ => ?_)
      clear hK K h2 S0
      refine wpAnyH_take (i := 10) (v := .bool r) rfl (by kernel_rfl) (by kernel_rfl) (by kernel_rfl) (fun _ _ _ h => h) (Or.inl ⟨by kernel_rfl, fun w _ => by go_simp⟩) S1.out ?_
      refine wpAnyH_done (by kernel_rfl) ?_ _
      clear hr
      have hnext : Hid (∀ b, r = b → lfold (fun i j => lt (xs.getD i 0) (xs.getD j 0)) (k + 1) = if b = true then k else m) := Lib.hid fun b hb => by
        have e : lfold (fun i j => lt (xs.getD i 0) (xs.getD j 0)) (k + 1) = if lt (xs.getD k 0) (xs.getD (lfold (fun i j => lt (xs.getD i 0) (xs.getD j 0)) k) 0) = true then k else lfold (fun i j => lt (xs.getD i 0) (xs.getD j 0)) k := rfl
        rw [e, ← hm.out, HX.out, HY.out, ← HR2.out, hb]
      cases r
      · go_wp2
        go_roundw
        case rel => exact ⟨k + 1, by omega, by go_num, ⟨m, rfl, Lib.hid (by rw [hnext.out false rfl]; rfl)⟩, S1⟩
        case measure => simp [intOf]; omega
      · go_wp2
        go_roundw
        case rel => exact ⟨k + 1, by omega, by go_num, ⟨k, rfl, Lib.hid (by rw [hnext.out true rfl]; rfl)⟩, S1⟩
        case measure => simp [intOf]; omega
    · obtain rfl : k = xs.length := by omega
      go_wp2
      go_ret2
      rw [← hm.out]
      exact ⟨rfl, hb.out⟩
end Go.Proofs.Ytdmganpblkepfaa

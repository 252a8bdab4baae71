/- Layer 10: the contracts of the document's Less and Victim. No condition but that the loads are there. -/
import Derived.Test.YtdmganpblkepfaaWearLeast
namespace Go.Proofs.Ytdmganpblkepfaa
open Go.RowKit WM
theorem less_any (a b : LV) (w : World) : Calls Try.prog 48 #[.agg (rrow a).toArray, .agg (rrow b).toArray] w fun e w' => e = .returned (.bool (sooner a b)) ∧ Below w.heap.size w w' := by
  obtain ⟨r, hr⟩ : ∃ r, r = sooner a b := ⟨_, rfl⟩
  rw [← hr]
  show Calls Try.prog 48 #[.agg #[.int .u64 (a.seq : Int), .int .u64 (a.wear : Int), .int .i64 a.block, .int .i64 a.counts], .agg #[.int .u64 (b.seq : Int), .int .u64 (b.wear : Int), .int .i64 b.block, .int .i64 b.counts]] w _
  have hb := Lib.hid (two_boxes w #[.int .u64 (a.seq : Int), .int .u64 (a.wear : Int), .int .i64 a.block, .int .i64 a.counts] #[.int .u64 (b.seq : Int), .int .u64 (b.wear : Int), .int .i64 b.block, .int .i64 b.counts] 65)
  unfold sooner at hr
  by_cases h1 : a.counts = b.counts
  · have d1 : (a.counts != b.counts) = false := by simp [h1]
    by_cases h2 : a.wear = b.wear
    · have d2 : ((a.wear : Int) != (b.wear : Int)) = false := by simp [h2]
      have d3 : decide (a.block < b.block) = r := by rw [hr]; simp [h1, h2]
      clear hr h1 h2
      go_enter Try.func48, Try.ntmps48
      go_wp2
      go_ret
      exact ⟨rfl, hb.out⟩
    · have d2 : ((a.wear : Int) != (b.wear : Int)) = true := by simp; omega
      have d3 : decide ((a.wear : Int) < (b.wear : Int)) = r := by rw [hr]; simp [h1, h2]
      have d4 : decide (a.wear < b.wear) = r := by rw [← d3, decide_eq_decide]; omega
      clear hr h1 h2
      go_enter Try.func48, Try.ntmps48
      go_wp2
      go_ret
      exact ⟨rfl, hb.out⟩
  · have d1 : (a.counts != b.counts) = true := by simp [h1]
    have d3 : decide (a.counts < b.counts) = r := by rw [hr]; simp [h1]
    clear hr h1
    go_enter Try.func48, Try.ntmps48
    go_wp2
    go_ret
    exact ⟨rfl, hb.out⟩
def lastTo (L : List LV) (k : Nat) : Int := if k = 0 then -1 else (lfold (fun i j => newer (at_ L i) (at_ L j)) k : Nat)
def optI (b : Option Nat) : Int := match b with | none => -1 | some j => (j : Int)
theorem lastTo_succ (L : List LV) (k : Nat) (h : 0 < k) : lastTo L (k + 1) = if newer (at_ L k) (at_ L (lfold (fun i j => newer (at_ L i) (at_ L j)) k)) = true then (k : Int) else lastTo L k := by
  have e : lfold (fun i j => newer (at_ L i) (at_ L j)) (k + 1) = if newer (at_ L k) (at_ L (lfold (fun i j => newer (at_ L i) (at_ L j)) k)) = true then k else lfold (fun i j => newer (at_ L i) (at_ L j)) k := rfl
  unfold lastTo
  rw [if_neg (show ¬ k + 1 = 0 by omega), if_neg (show ¬ k = 0 by omega), e]
  split <;> rfl
theorem lastTo_one (L : List LV) : lastTo L 1 = 0 := by
  have h : ∀ f : Nat → Nat → Bool, lfold f 1 = 0 := fun f => by
    show (if f 0 0 = true then 0 else 0) = 0
    cases f 0 0 <;> rfl
  unfold lastTo
  rw [if_neg (by omega), h]
  rfl
set_option maxRecDepth 100000 in
set_option maxHeartbeats 8000000 in
theorem refvictim_any (A : Option Addr) (L : List LV) (c : Nat) (w : World) (B : Nat) (hB : B ≤ w.heap.size) (hr : Row w B A (L.flatMap rrow)) (hl : L.length ≤ 1000) :
    Calls Try.prog 30 #[.slice A L.length c] w fun e w' => e = .returned (.int .i64 (optI (victim L))) ∧ Below w.heap.size w w' := by
  have HR := Lib.hid hr
  have HR2 := Lib.hid hr
  clear hr
  go_enter Try.func30, Try.ntmps30
  go_wp2
  go_loopw [3, 4] (fun f i wr => ∃ k : Nat, k ≤ L.length ∧ i = .int .i64 k ∧ (∃ m : Int, f = .int .i64 m ∧ Hid (m = lastTo L k)) ∧ Hid (Below w.heap.size w wr)) (fun _ i _ => L.length - (intOf i).toNat)
  case atStart => exact ⟨0, Nat.zero_le _, rfl, ⟨-1, rfl, Lib.hid rfl⟩, Lib.hid (Below.refl _ _)⟩
  case round =>
    rename_i wr
    obtain ⟨k, hk, rfl, ⟨m, rfl, hm⟩, hb⟩ := hrel
    by_cases hlt : k < L.length
    · by_cases h0 : k = 0
      · subst h0
        obtain rfl : m = -1 := by rw [hm.out]; rfl
        go_wp2_with fail
        go_quiet (fail)
        go_wp2_with fail
        go_roundw
        case rel => exact ⟨1, by omega, by go_num, ⟨0, by go_num, Lib.hid (lastTo_one L).symm⟩, Lib.hid ⟨hb.out.os, hb.out.tape, hb.out.output, hb.out.size, hb.out.block⟩⟩
        case measure => simp [intOf]; omega
      · have hml := lfold_lt (fun i j => newer (at_ L i) (at_ L j)) hk (by omega)
        have hs := lastTo_succ L k (by omega)
        obtain ⟨n, hn⟩ : ∃ n, n = lfold (fun i j => newer (at_ L i) (at_ L j)) k := ⟨_, rfl⟩
        rw [← hn] at hml hs
        obtain rfl : m = n := by rw [hm.out, lastTo, if_neg h0, hn]
        obtain ⟨a, rfl, hab, hck⟩ := HR.out.elem rrow_len (by omega) (at_get hlt)
        obtain ⟨a', e', _, hcm⟩ := HR.out.elem rrow_len (by omega) (at_get hml)
        cases e'
        have cp := (hb.out.cell (p := (a.add (k * 4)).add 0) (by rw [add_block, add_block]; omega)).trans (hck 0 _ rfl)
        have cq := (hb.out.cell (p := (a.add (n * 4)).add 0) (by rw [add_block, add_block]; omega)).trans (hcm 0 _ rfl)
        rw [show (a.add (k * 4)).add 0 = a.add (k * 4) by simp [Addr.add]] at cp
        rw [show (a.add (n * 4)).add 0 = a.add (n * 4) by simp [Addr.add]] at cq
        obtain ⟨x, hx⟩ : ∃ x, x = (at_ L k).seq := ⟨_, rfl⟩
        obtain ⟨y, hy⟩ : ∃ y, y = (at_ L n).seq := ⟨_, rfl⟩
        rw [← hx] at cp
        rw [← hy] at cq
        have hnw : newer (at_ L k) (at_ L n) = decide (y < x) := by rw [newer, hx, hy]
        rw [hnw] at hs
        have HS := Lib.hid hs
        have HM := Lib.hid hm.out
        clear hck hcm hx hy hnw hn hs hm
        have h0i : (0 : Int) < (k : Int) := by omega
        by_cases hxy : y < x
        · have d1 : decide ((y : Int) < (x : Int)) = true := by simp; omega
          have HS2 := Lib.hid (show lastTo L (k + 1) = k by rw [HS.out, decide_eq_true hxy, if_pos rfl])
          go_wp2_with fail
          go_quiet (fail)
          clear cp cq d1
          go_wp2_with fail
          go_roundw
          case rel => exact ⟨k + 1, by omega, by go_num, ⟨k, by go_num, Lib.hid HS2.out.symm⟩, Lib.hid ⟨hb.out.os, hb.out.tape, hb.out.output, hb.out.size, hb.out.block⟩⟩
          case measure => simp [intOf]; omega
        · have d1 : decide ((y : Int) < (x : Int)) = false := by simp; omega
          have HS2 := Lib.hid (show lastTo L (k + 1) = n by rw [HS.out, decide_eq_false hxy, if_neg (by simp), ← HM.out])
          go_wp2_with fail
          go_quiet (fail)
          clear cp cq d1
          go_wp2_with fail
          go_roundw
          case rel => exact ⟨k + 1, by omega, by go_num, ⟨n, by go_num, Lib.hid HS2.out.symm⟩, Lib.hid ⟨hb.out.os, hb.out.tape, hb.out.output, hb.out.size, hb.out.block⟩⟩
          case measure => simp [intOf]; omega
    · obtain rfl : k = L.length := by omega
      clear HR
      go_wp2_with fail
      obtain ⟨W, hW⟩ : ∃ W, W = wr := ⟨_, rfl⟩
      subst hW
      go_loopw [5, 6] (fun f i wq => ∃ k : Nat, k ≤ L.length ∧ i = .int .i64 k ∧ (∃ z : Int, f = .int .i64 z ∧ Hid (z = optI (best L k))) ∧ Hid (Below w.heap.size w wq)) (fun _ i _ => L.length - (intOf i).toNat)
      case atStart => exact ⟨0, Nat.zero_le _, rfl, ⟨-1, rfl, Lib.hid rfl⟩, hb⟩
      case round =>
        clear hb
        obtain ⟨k, hk, rfl, ⟨z, rfl, hz⟩, hb⟩ := hrel
        by_cases hlt : k < L.length
        · obtain rfl : m = (newest L : Nat) := by rw [hm.out, lastTo, if_neg (by omega)]; rfl
          have hbs := best_succ L k
          obtain ⟨p, hp⟩ : ∃ p, p = newest L := ⟨_, rfl⟩
          rw [← hp] at hbs ⊢
          clear hp hm
          by_cases hkp : k = p
          · have d1 : ((k : Int) != (p : Int)) = false := by simp [hkp]
            rw [if_pos hkp] at hbs
            have HB := Lib.hid hbs
            clear hkp hbs
            go_wp2_with fail
            go_quiet (fail)
            clear d1
            go_wp2_with fail
            go_roundw
            case rel => exact ⟨k + 1, by omega, by go_num, ⟨z, rfl, Lib.hid (by rw [HB.out]; exact hz.out)⟩, Lib.hid ⟨hb.out.os, hb.out.tape, hb.out.output, hb.out.size, hb.out.block⟩⟩
            case measure => simp [intOf]; omega
          · have d1 : ((k : Int) != (p : Int)) = true := by simp; omega
            rw [if_neg hkp] at hbs
            rcases hbk : best L k with _ | j
            · rw [hbk] at hbs hz
              obtain rfl : z = -1 := hz.out
              have HB := Lib.hid (show best L (k + 1) = some k from hbs)
              clear hkp hbs hbk
              go_wp2_with fail
              go_quiet (fail)
              clear d1
              go_wp2_with fail
              go_roundw
              case rel => exact ⟨k + 1, by omega, by go_num, ⟨k, by go_num, Lib.hid (by rw [HB.out]; rfl)⟩, Lib.hid ⟨hb.out.os, hb.out.tape, hb.out.output, hb.out.size, hb.out.block⟩⟩
              case measure => simp [intOf]; omega
            · have hjl : j < L.length := Nat.lt_trans (others_lt (pick_mem hbk)) hlt
              rw [hbk] at hbs hz
              obtain rfl : z = (j : Int) := hz.out
              have HB := Lib.hid (show best L (k + 1) = if sooner (at_ L k) (at_ L j) = true then some k else some j from hbs)
              have HZ := Lib.hid hz.out
              obtain ⟨a, rfl, hab, hck⟩ := HR2.out.elem rrow_len (by omega) (at_get hlt)
              obtain ⟨a', e', _, hcm⟩ := HR2.out.elem rrow_len (by omega) (at_get hjl)
              cases e'
              obtain ⟨x, hx⟩ : ∃ x, x = at_ L k := ⟨_, rfl⟩
              obtain ⟨y, hy⟩ : ∃ y, y = at_ L j := ⟨_, rfl⟩
              rw [← hx] at hck
              rw [← hy] at hcm
              have HCK := Lib.hid (show ∀ w', Below w.heap.size w w' → ∀ j u, (rrow x)[j]? = some u → w'.cell? ((a.add (k * 4)).add j) = some u from fun w' h j u hu => (h.cell (p := (a.add (k * 4)).add j) (by rw [add_block, add_block]; omega)).trans (hck j u hu))
              have HCM := Lib.hid (show ∀ w', Below w.heap.size w w' → ∀ i u, (rrow y)[i]? = some u → w'.cell? ((a.add (j * 4)).add i) = some u from fun w' h i u hu => (h.cell (p := (a.add (j * 4)).add i) (by rw [add_block, add_block]; omega)).trans (hcm i u hu))
              have hlr := Lib.hid (rrow_len x)
              have hlr2 := Lib.hid (rrow_len y)
              have KF' := fun w => less_any x y w
              obtain ⟨rx, hrx⟩ : ∃ rx, rx = rrow x := ⟨_, rfl⟩
              obtain ⟨ry, hry⟩ : ∃ ry, ry = rrow y := ⟨_, rfl⟩
              rw [← hrx, ← hry] at KF'
              rw [← hrx] at HCK hlr
              rw [← hry] at HCM hlr2
              obtain ⟨r, hrr⟩ : ∃ r, r = sooner x y := ⟨_, rfl⟩
              have HRR := Lib.hid (show sooner (at_ L k) (at_ L j) = r by rw [← hx, ← hy, hrr])
              rw [← hrr] at KF'
              have KF := Lib.hid KF'
              clear hck hcm hx hy hrx hry KF' hrr hbs hbk hz hkp
              have hk0 : ¬ ((j : Int) < 0) := by omega
              go_wp2_with fail
              have S0 : Below w.heap.size w wr.drew := hb.out.drew
              refine wp_region_held_drew (S := (fun w' => Below w.heap.size w w')) (by kernel_rfl) S0 (fun _ => ?_)
              refine wpAnyH_take (i := 0) (v := .int .i64 (k : Int)) rfl (by kernel_rfl) (by kernel_rfl) (by kernel_rfl) (fun _ _ _ h => h) (Or.inl ⟨by kernel_rfl, fun w _ => by go_simp⟩) S0 ?_
              refine wpAnyH_take (i := 1) (v := .int .i64 (p : Int)) rfl (by kernel_rfl) (by kernel_rfl) (by kernel_rfl) (fun _ _ _ h => h) (Or.inl ⟨by kernel_rfl, fun w _ => by go_simp⟩) S0 ?_
              refine wpAnyH_take (i := 2) (v := .bool true) rfl (by kernel_rfl) (by kernel_rfl) (by kernel_rfl) (fun _ _ _ h => h) (Or.inl ⟨by kernel_rfl, fun w _ => by go_simp⟩) S0 ?_
              refine wpAnyH_take (i := 3) (v := .bool true) rfl (by kernel_rfl) (by kernel_rfl) (by kernel_rfl) (fun _ _ _ h => h) (Or.inl ⟨by kernel_rfl, fun w _ => by go_simp⟩) S0 ?_
              refine wpAnyH_take (i := 4) (v := .int .i64 (j : Int)) rfl (by kernel_rfl) (by kernel_rfl) (by kernel_rfl) (fun _ _ _ h => h) (Or.inl ⟨by kernel_rfl, fun w _ => by go_simp⟩) S0 ?_
              refine wpAnyH_take (i := 5) (v := .bool false) rfl (by kernel_rfl) (by kernel_rfl) (by kernel_rfl) (fun _ _ _ h => h) (Or.inl ⟨by kernel_rfl, fun w _ => by go_simp⟩) S0 ?_
              refine wpAnyH_take (i := 6) (v := .bool false) rfl (by kernel_rfl) (by kernel_rfl) (by kernel_rfl) (fun _ _ _ h => h) (Or.inl ⟨by kernel_rfl, fun w _ => by go_simp⟩) S0 ?_
              refine wpAnyH_take (i := 7) (v := .slice (some a) L.length c) rfl (by kernel_rfl) (by kernel_rfl) (by kernel_rfl) (fun _ _ _ h => h) (Or.inl ⟨by kernel_rfl, fun w _ => by go_simp⟩) S0 ?_
              refine wpAnyH_take (i := 8) (v := .int .i64 (k : Int)) rfl (by kernel_rfl) (by kernel_rfl) (by kernel_rfl) (fun _ _ _ h => h) (Or.inl ⟨by kernel_rfl, fun w _ => by go_simp⟩) S0 ?_
              refine wpAnyH_take (i := 9) (v := .pointer (some (a.add (k * 4)))) rfl (by kernel_rfl) (by kernel_rfl) (by kernel_rfl) (fun _ _ _ h => h) (Or.inl ⟨by kernel_rfl, fun w _ => by go_simp⟩) S0 ?_
              refine wpAnyH_take (i := 10) (v := .agg rx.toArray) rfl (by kernel_rfl) (by kernel_rfl) (by kernel_rfl) (fun _ _ _ h => h) (yields_cells (q := a.add (k * 4)) aggR sizeR (.tmp 44) (by kernel_rfl) (by kernel_rfl) (by kernel_rfl) hlr.out HCK.out) S0 ?_
              refine wpAnyH_take (i := 11) (v := .slice (some a) L.length c) rfl (by kernel_rfl) (by kernel_rfl) (by kernel_rfl) (fun _ _ _ h => h) (Or.inl ⟨by kernel_rfl, fun w _ => by go_simp⟩) S0 ?_
              refine wpAnyH_take (i := 12) (v := .int .i64 (j : Int)) rfl (by kernel_rfl) (by kernel_rfl) (by kernel_rfl) (fun _ _ _ h => h) (Or.inl ⟨by kernel_rfl, fun w _ => by go_simp⟩) S0 ?_
              refine wpAnyH_take (i := 13) (v := .pointer (some (a.add (j * 4)))) rfl (by kernel_rfl) (by kernel_rfl) (by kernel_rfl) (fun _ _ _ h => h) (Or.inl ⟨by kernel_rfl, fun w _ => by go_simp⟩) S0 ?_
              refine wpAnyH_take (i := 14) (v := .agg ry.toArray) rfl (by kernel_rfl) (by kernel_rfl) (by kernel_rfl) (fun _ _ _ h => h) (yields_cells (q := a.add (j * 4)) aggR sizeR (.tmp 48) (by kernel_rfl) (by kernel_rfl) (by kernel_rfl) hlr2.out HCM.out) S0 ?_
              refine wpAnyH_ready (rs := [15]) (by kernel_rfl) (by simp) (AllReadyH.cons rfl (fun K hK => ?_) AllReadyH.nil)
              go_simp
              ((with_reducible refine (KF.out _).mono ?_); rintro x2 w2 ⟨rfl, h2⟩)
              have S1 := Lib.hid (S0.trans (h2.mono S0.size))
              refine hK.out _ _ S1.out (fun _ => ?_)
              clear hK K h2 S0
              refine wpAnyH_take (i := 16) (v := .bool r) rfl (by kernel_rfl) (by kernel_rfl) (by kernel_rfl) (fun _ _ _ h => h) (Or.inl ⟨by kernel_rfl, fun w _ => by go_simp⟩) S1.out ?_
              refine wpAnyH_take (i := 17) (v := .bool r) rfl (by kernel_rfl) (by kernel_rfl) (by kernel_rfl) (fun _ _ _ h => h) (Or.inl ⟨by kernel_rfl, fun w _ => by go_simp⟩) S1.out ?_
              refine wpAnyH_done (by kernel_rfl) ?_ _
              clear hk0 d1
              cases r
              · go_wp2
                go_roundw
                case rel => exact ⟨k + 1, by omega, by go_num, ⟨j, rfl, Lib.hid (by rw [HB.out, HRR.out]; rfl)⟩, S1⟩
                case measure => simp [intOf]; omega
              · go_wp2
                go_roundw
                case rel => exact ⟨k + 1, by omega, by go_num, ⟨k, rfl, Lib.hid (by rw [HB.out, HRR.out]; rfl)⟩, S1⟩
                case measure => simp [intOf]; omega
        · obtain rfl : k = L.length := by omega
          have HZ := Lib.hid (show z = optI (victim L) from hz.out)
          clear hz
          go_wp2
          go_ret
          rw [← HZ.out]
          exact ⟨rfl, hb.out⟩
end Go.Proofs.Ytdmganpblkepfaa

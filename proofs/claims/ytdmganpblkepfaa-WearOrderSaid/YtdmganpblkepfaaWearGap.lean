/- Layer 10: the contracts of Room and Gap. No condition but that the loads are there. -/
import Derived.Test.YtdmganpblkepfaaWearLeast
namespace Go.Proofs.Ytdmganpblkepfaa
open Go.RowKit WM
theorem add_two (a : Addr) : a.add 2 = ⟨a.block, a.off + 2, none⟩ := rfl
theorem room_any (b : Int) (w : World) (hb : b ≤ 1099511627776) : Calls Try.prog 31 #[.int .i64 b] w fun e w' => e = .returned (.int .i64 (max (3 * (max b 3 - 3) - 2) 0)) ∧ w = w' := by
  rcases (show b ≤ 3 ∨ (3 < b) by omega) with h | h
  · have e : max (3 * (max b 3 - 3) - 2) 0 = (0 : Int) := by omega
    rw [e]
    clear e
    by_cases h3 : b = 3
    · subst h3
      go_enter Try.func31, Try.ntmps31
      go_wp2
      go_ret
      exact ⟨rfl, rfl⟩
    · have h4 : b < 3 := by omega
      go_enter Try.func31, Try.ntmps31
      go_wp2
      go_ret
      exact ⟨rfl, rfl⟩
  · obtain ⟨m, hm⟩ : ∃ m : Int, m = 3 * (b - 3) - 2 := ⟨_, rfl⟩
    have e : max (3 * (max b 3 - 3) - 2) 0 = 3 * (b - 3) - 2 := by omega
    rw [e]
    clear e hm m
    have h1 : ¬ b < 3 := by omega
    have h2 : ¬ 3074457345618258606 < b := by omega
    have h3 : 0 < 3 * (b - 3) - 2 := by omega
    go_enter Try.func31, Try.ntmps31
    go_wp2
    go_ret
    exact ⟨rfl, rfl⟩
/-- by how much the greatest wear is above the least one -/
def gapN (L : List LV) : Nat := (at_ L (lfold (fun i j => moreWorn (at_ L i) (at_ L j)) L.length)).wear - (at_ L (lfold (fun i j => lessWorn (at_ L i) (at_ L j)) L.length)).wear
set_option maxRecDepth 100000 in
set_option maxHeartbeats 4000000 in
theorem gap_any (A : Option Addr) (L : List LV) (c : Nat) (w : World) (B : Nat) (hB : B ≤ w.heap.size) (hr : Row w B A (L.flatMap mrow)) (hl : L.length ≤ 1000) (hok : ∀ x ∈ L, LV.ok x) :
    Calls Try.prog 32 #[.slice A L.length c] w fun e w' => e = .returned (.int .u64 (gapN L : Nat)) ∧ Below w.heap.size w w' := by
  by_cases h0 : 0 < L.length
  · have HR := Lib.hid hr
    have kl := least_lessWorn A L c w B hB hr hl h0
    have kh := fun w2 (h : Below w.heap.size w w2) => least_moreWorn A L c w2 w.heap.size h.size ((hr.more hB).below h) hl h0
    have lo := lfold_lt (fun i j => lessWorn (at_ L i) (at_ L j)) (Nat.le_refl L.length) h0
    have hi := lfold_lt (fun i j => moreWorn (at_ L i) (at_ L j)) (Nat.le_refl L.length) h0
    have hle := lfold_min (fun i => (at_ L i).wear) L.length _ hi
    unfold gapN
    obtain ⟨p, hp⟩ : ∃ p, p = lfold (fun i j => lessWorn (at_ L i) (at_ L j)) L.length := ⟨_, rfl⟩
    obtain ⟨q, hq⟩ : ∃ q, q = lfold (fun i j => moreWorn (at_ L i) (at_ L j)) L.length := ⟨_, rfl⟩
    have hle2 : (at_ L p).wear ≤ (at_ L q).wear := by rw [hp, hq]; exact hle
    rw [← hp] at kl lo ⊢
    rw [← hq] at hi ⊢
    simp only [← hq] at kh
    obtain ⟨a, rfl, hab, hck⟩ := HR.out.elem mrow_len (by omega) (at_get lo)
    obtain ⟨a', e', _, hcm⟩ := HR.out.elem mrow_len (by omega) (at_get hi)
    cases e'
    have cp := hck 2 _ rfl
    have cq := hcm 2 _ rfl
    have o1 := (hok _ (List.mem_of_getElem? (at_get lo))).wear
    have o2 := (hok _ (List.mem_of_getElem? (at_get hi))).wear
    obtain ⟨x, hx⟩ : ∃ x, x = (at_ L p).wear := ⟨_, rfl⟩
    obtain ⟨y, hy⟩ : ∃ y, y = (at_ L q).wear := ⟨_, rfl⟩
    rw [← hx] at cp hle2 o1 ⊢
    rw [← hy] at cq hle2 o2 ⊢
    have KL := Lib.hid kl
    have KH := Lib.hid kh
    have HD := Lib.hid (show ((y - x : Nat) : Int) = (y : Int) - (x : Int) by omega)
    clear hck hcm hx hy hp hq hle kl kh hr hok
    go_enter Try.func32, Try.ntmps32
    go_wp2_with fail
    ((with_reducible refine KL.out.mono ?_); rintro e w2 ⟨rfl, h2⟩)
    have T2 := Lib.hid h2
    have KH2 := Lib.hid (KH.out w2 h2)
    clear h2 KL KH
    go_wp2_with fail
    ((with_reducible refine KH2.out.mono ?_); rintro e w3 ⟨rfl, h3⟩)
    have T3 := Lib.hid (T2.out.trans (h3.mono T2.out.size))
    have cp3 := (T3.out.cell (p := (a.add (p * 5)).add 2) (by rw [add_block, add_block]; omega)).trans cp
    have cq3 := (T3.out.cell (p := (a.add (q * 5)).add 2) (by rw [add_block, add_block]; omega)).trans cq
    rw [add_two] at cp3 cq3
    clear h3 KH2 cp cq T2
    go_wp2_with fail
    have ww : IntKind.u64.wrap ((y : Int) - (x : Int)) = (y : Int) - (x : Int) := by rw [IntKind.wrap_u64]; omega
    go_quiet (fail)
    clear ww
    go_wp2
    go_ret
    rw [HD.out]
    exact ⟨rfl, ⟨T3.out.os, T3.out.tape, T3.out.output, T3.out.size, T3.out.block⟩⟩
  · obtain rfl : L = [] := List.eq_nil_of_length_eq_zero (by omega)
    have k := Lib.hid (least_none (.func (.func 49) #[] #[]) A c w)
    go_enter Try.func32, Try.ntmps32
    go_wp2_with fail
    ((with_reducible refine k.out.mono ?_); rintro e w' ⟨rfl, hw⟩; rw [← hw]; clear hw w')
    go_wp2
    go_ret
    exact ⟨rfl, Below.refl _ _⟩
end Go.Proofs.Ytdmganpblkepfaa

/- The contract of the reference's Fail. Condition: at most 900 numbers. -/
import Derived.Test.YtjdegfblacbkoaaNandRefC
import Derived.Test.YtjdegfblacbkoaaMem
namespace Go.Proofs.Ytjdegfblacbkoaa
open Go.RowKit
theorem intTys : OneCell Try.prog 22 3 (.int .i64 0) 8 := OneCell.mk' Try.underlying22 (by kernel_rfl) rfl
theorem own_rnums {w : World} {base : Nat} {e : TypeId} {A : Option Addr} {c n : Nat} {zs : List Int} (hn : zs.length = n) (h : w.ownsRow base e 1 (.slice A n c) n (zs.map (Value.int .i64))) (hwf : ∀ z ∈ zs, (Lit.int .i64 z).wf = true) :
    ∃ x : Option Nat, RNums w x (.slice A n c) zs ∧ ∀ k, x = some k → base ≤ k ∧ k < w.heap.size := by
  subst hn
  rcases h.2 with ⟨hv, h0⟩ | ⟨g, cap, cur, hv, hg, hb, hnc, hcap, hcur, htake⟩
  · obtain ⟨rfl, _, rfl⟩ := Value.slice.inj hv
    refine ⟨none, ⟨none, 0, rfl, by omega, by simp [maxLen], hwf, fun j u hu => ?_⟩, fun k e => by cases e⟩
    have : zs = [] := List.eq_nil_of_length_eq_zero h0
    rw [this] at hu
    simp at hu
  · obtain ⟨rfl, _, rfl⟩ := Value.slice.inj hv
    have hlt : g < w.heap.size := by
      rcases Nat.lt_or_ge g w.heap.size with h' | h'
      · exact h'
      · rw [Array.getElem?_eq_none h'] at hb; cases hb
    refine ⟨some g, ⟨_, _, rfl, hnc, hcap, hwf, fun j u hu => ⟨_, rfl, rfl, hlt, ?_⟩⟩, fun k e => by cases e; exact ⟨hg, hlt⟩⟩
    rw [add_off]
    rw [← htake, List.getElem?_take] at hu
    split at hu
    · simp [World.cell?, hb]
      simpa using hu
    · cases hu
theorem slice_one (w : World) : (sizeOf 22).run Try.prog w = .ok 1 w := by kernel_rfl
def RAt.told (r : RAt) (programs : Bool) (x : Option Nat) : RAt := if programs then { r with xp := x } else { r with xe := x }
set_option maxRecDepth 100000 in
set_option maxHeartbeats 4000000 in
theorem refFail_any (r : RAt) (S : Ch) (programs : Bool) (zs : List Int) (v : Value) (hlen : zs.length ≤ 900) (w : World) (h : RChip w r S) (hp : r.p < w.heap.size) (hv : Nums w w.heap.size .i64 v zs) :
    Calls Try.prog 33 #[.pointer (some ⟨r.c, 0, none⟩), .bool programs, v] w fun e w' => e = .returned (.tuple #[]) ∧ ∃ x : Option Nat, (∀ k, x = some k → w.heap.size ≤ k ∧ k < w'.heap.size) ∧ RChip w' (r.told programs x) (S.told programs zs) ∧ Chg w w' (fun j => j = r.c) := by
  obtain ⟨A, cap, rfl, hl1, hl2, hrow, hwf⟩ := hv
  have H0 := Lib.hid h
  have hW := Lib.hid hwf
  have O0 : (w.alloc (.cells #[] 3)).ownsRow w.heap.size 3 1 (.slice (some ⟨w.heap.size, 0, none⟩) 0 0) 0 [] := World.ownsRow_made (size := 1) w #[] 0 (Nat.le_refl _) (by simp [maxLen]) (by simp)
  have b0 : Below w.heap.size w (w.alloc (.cells #[] 3)) := (Below.refl _ _).alloc (Nat.le_refl _) _
  have R0 := hrow.below b0
  have hb0 := Lib.hid b0
  have h1c : ∀ u ∈ zs.map (Value.int .i64), u.oneCell' = true := fun u hu => by obtain ⟨z, _, rfl⟩ := List.mem_map.1 hu; rfl
  have hsW : w.heap.size ≤ (w.alloc (.cells #[] 3)).heap.size := by simp
  obtain ⟨⟨vp, ve, fp, fe, hB, hrp, hre, hfp, hfe⟩, r1, r2, r3, r4, r5, r6, r7, r8, r9⟩ := h
  have HB := Lib.hid hB
  have HRP := Lib.hid hrp
  have HRE := Lib.hid hre
  have l7 : 7 < (S.rcells r vp ve).length := by show 7 < 11; omega
  have l6 : 6 < (S.rcells r vp ve).length := by show 6 < 11; omega
  have l9 : ∀ v, 9 < ((S.rcells r vp ve).set 7 v).length := fun v => by rw [List.length_set]; show 9 < 11; omega
  have l8 : ∀ v, 8 < ((S.rcells r vp ve).set 6 v).length := fun v => by rw [List.length_set]; show 8 < 11; omega
  have hcl : Hid (r.c < w.heap.size) := Lib.hid hB.lt
  have below8 : ∀ w8 : World, (w.alloc (.cells #[] 3)).grownBy w8 (some w.heap.size) → Below w.heap.size w w8 := fun w8 g => hb0.out.grown g (by simp) (fun k e => by cases e; exact Nat.le_refl _)
  clear b0 hrow hwf hB hrp hre
  have fin : ∀ (x : Option Nat) (w8 w9 : World), Below w.heap.size w w8 → Chg w8 w9 (fun j => j = r.c) → Chg w w9 (fun j => j = r.c) := fun _ w8 w9 b q => (Chg.of_below b).trans q
  cases programs
  · go_enter Try.func33, Try.ntmps33
    go_wp2_with (first
      | (at_builtin; refine wpl_append_vals (xs := []) intTys rfl (.tmp 17) (.tmp 18) rfl 0 rfl O0 _ _ _ (zs.map (Value.int .i64)) zs.length (by simp) rfl R0 h1c (by omega) (by simp only [maxLen]; omega) hsW zs.length (by omega) ?_; intro A8 c8 w8 O8 g8 h8; have b8 := below8 w8 g8; have B8 := HB.out.after b8)
      | (with_reducible refine wpl_blk slice_one rfl rfl (.tmp 21) (.tmp 19) rfl rfl B8 7 l7 rfl rfl ?_; intro w9 B9 g9 e9)
      | (with_reducible refine wpl_blk_int .i64 0 int_one (.tmp 24) (.const (.int .i64 0)) rfl rfl B9 9 (l9 _) rfl rfl _ rfl ?_; intro wa Ba ga ea))
    go_end0
    rw [List.nil_append] at O8
    obtain ⟨x, hx, hxb⟩ := own_rnums rfl O8 hW.out
    have qa : Chg w8 wa (fun j => j = r.c) := (Chg.of_grown (S := fun j => j = r.c) g9 (fun k e => Option.some.inj e)).trans (Chg.of_grown ga (fun k e => Option.some.inj e))
    have qw := (Chg.of_below b8).trans qa
    have hc := hcl.out
    refine ⟨rfl, x, fun k e => ⟨(hxb k e).1, Nat.lt_of_lt_of_le (hxb k e).2 qa.size⟩, ⟨⟨vp, _, fp, zs, Ba, HRP.out.chg qw (fun k e => (r8 k e).1), hx.chg qa (fun k e h => by have := (hxb k e).1; omega), hfp, fun _ => rfl⟩, ⟨r1.1.chg qw (fun e => r6.1 e.symm), r1.2⟩, r2.chg qw (fun e => r6.2.1 e.symm), r3.chg qw (fun e => r6.2.2.1 e.symm), r4, r5, r6, ?_, r8, ?_⟩, qw⟩
    · rintro (h | h | h | h | h | h)
      · exact r7 (.inl h)
      · exact r7 (.inr (.inl h))
      · exact r7 (.inr (.inr (.inl h)))
      · exact r7 (.inr (.inr (.inr (.inl h))))
      · exact r7 (.inr (.inr (.inr (.inr (.inl h)))))
      · have := (hxb _ h).1; have e : (r.told false x).p = r.p := rfl; omega
    · intro k e
      have h1 := (hxb k e).1
      have g1 := r1.1.lt
      have n1 := r2.lt
      have b1 := r3.lt
      exact ⟨by show k ≠ r.c; omega, by show k ≠ r.g; omega, by show k ≠ r.n; omega, by show k ≠ r.b; omega⟩
  · go_enter Try.func33, Try.ntmps33
    go_wp2_with (first
      | (at_builtin; refine wpl_append_vals (xs := []) intTys rfl (.tmp 8) (.tmp 9) rfl 0 rfl O0 _ _ _ (zs.map (Value.int .i64)) zs.length (by simp) rfl R0 h1c (by omega) (by simp only [maxLen]; omega) hsW zs.length (by omega) ?_; intro A8 c8 w8 O8 g8 h8; have b8 := below8 w8 g8; have B8 := HB.out.after b8)
      | (with_reducible refine wpl_blk slice_one rfl rfl (.tmp 12) (.tmp 10) rfl rfl B8 6 l6 rfl rfl ?_; intro w9 B9 g9 e9)
      | (with_reducible refine wpl_blk_int .i64 0 int_one (.tmp 15) (.const (.int .i64 0)) rfl rfl B9 8 (l8 _) rfl rfl _ rfl ?_; intro wa Ba ga ea))
    go_end0
    rw [List.nil_append] at O8
    obtain ⟨x, hx, hxb⟩ := own_rnums rfl O8 hW.out
    have qa : Chg w8 wa (fun j => j = r.c) := (Chg.of_grown (S := fun j => j = r.c) g9 (fun k e => Option.some.inj e)).trans (Chg.of_grown ga (fun k e => Option.some.inj e))
    have qw := (Chg.of_below b8).trans qa
    have hc := hcl.out
    refine ⟨rfl, x, fun k e => ⟨(hxb k e).1, Nat.lt_of_lt_of_le (hxb k e).2 qa.size⟩, ⟨⟨_, ve, zs, fe, Ba, hx.chg qa (fun k e h => by have := (hxb k e).1; omega), HRE.out.chg qw (fun k e => (r9 k e).1), fun _ => rfl, hfe⟩, ⟨r1.1.chg qw (fun e => r6.1 e.symm), r1.2⟩, r2.chg qw (fun e => r6.2.1 e.symm), r3.chg qw (fun e => r6.2.2.1 e.symm), r4, r5, r6, ?_, ?_, r9⟩, qw⟩
    · rintro (h | h | h | h | h | h)
      · exact r7 (.inl h)
      · exact r7 (.inr (.inl h))
      · exact r7 (.inr (.inr (.inl h)))
      · exact r7 (.inr (.inr (.inr (.inl h))))
      · have := (hxb _ h).1; have e : (r.told true x).p = r.p := rfl; omega
      · exact r7 (.inr (.inr (.inr (.inr (.inr h)))))
    · intro k e
      have h1 := (hxb k e).1
      have g1 := r1.1.lt
      have n1 := r2.lt
      have b1 := r3.lt
      exact ⟨by show k ≠ r.c; omega, by show k ≠ r.g; omega, by show k ≠ r.n; omega, by show k ≠ r.b; omega⟩
end Go.Proofs.Ytjdegfblacbkoaa

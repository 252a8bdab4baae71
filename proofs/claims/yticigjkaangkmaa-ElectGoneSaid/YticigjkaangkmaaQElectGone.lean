/- The walk of ElectGone: it answers true, and changes nothing that was there. No condition. -/
import Derived.Test.YticigjkaangkmaaQElectChooses
namespace Go.Proofs.Yticigjkaangkmaa
open Go Go.RowKit
theorem crow_gone (c : EC) : (crow c).set 0 (.bool false) = crow { c with h := false } := rfl
/-- a chip that isn't here plays no part -/
theorem choose_gone (t : VV) (a b : EC) (h : a.h = false) : choose t a b = choose t EC.zero b := by
  have e1 : EC.may t a 0 = false := by unfold EC.may; rw [h]; rfl
  have e2 : EC.may t EC.zero 0 = false := rfl
  have e3 : a.holds = false := by unfold EC.holds; rw [h]; rfl
  have e4 : EC.zero.holds = false := rfl
  have e5 : EC.hurt t a 0 = false := by unfold EC.hurt; rw [h]; rfl
  have e6 : EC.hurt t EC.zero 0 = false := rfl
  unfold choose pickC
  simp [e1, e2, e3, e4, e5, e6]
theorem choose_gone_ok (t : VV) (a b : EC) (h : a.h = false) (he : (choose t a b).2 = 0) : (choose t a b).1.c = 1 ∧ (choose t a b).1.m = 2 := by
  have e1 : EC.may t a 0 = false := by unfold EC.may; rw [h]; rfl
  unfold choose pickC at *
  simp only [e1] at *
  split at he
  · cases he
  · split at he
    · exfalso
      simp only at he
      split at he <;> cases he
    · rename_i h1 h2
      rw [if_neg h1, if_neg h2]
      simp
set_option maxRecDepth 100000 in
set_option maxHeartbeats 4000000 in
theorem electGone_any (u v x : Value) (w : World) (hu : ∃ t, IsView u t) (hv : ∃ a, IsChip v a) (hx : ∃ b, IsChip x b) :
    Calls Try.prog 9 #[u, v, x] w fun e w' => e = .returned (.bool true) ∧ Below w.heap.size w w' := by
  obtain ⟨t, rfl, _⟩ := hu
  obtain ⟨a, rfl, ha⟩ := hv
  obtain ⟨b, rfl, hb⟩ := hx
  have hg : ({ a with h := false } : EC).ok := ⟨ha.L⟩
  have HLA := Lib.hid (crow_len ha)
  have HLG := Lib.hid (crow_len hg)
  have HLB := Lib.hid (crow_len hb)
  have HLZ := Lib.hid (crow_len zero_ok)
  have HST := Lib.hid (crow_gone a)
  have K2 := Lib.hid (fun W n hn => choose2_at t hg hb W n hn)
  have K3 := Lib.hid (fun W n hn => choose2_at t zero_ok hb W n hn)
  rw [← choose_gone t { a with h := false } b rfl] at K3
  have HOK := Lib.hid (choose_gone_ok t { a with h := false } b rfl)
  obtain ⟨p, hp⟩ : ∃ p, (choose t { a with h := false } b).1 = p := ⟨_, rfl⟩
  obtain ⟨er, her⟩ : ∃ er, (choose t { a with h := false } b).2 = er := ⟨_, rfl⟩
  rw [hp, her] at K2 K3
  rw [hp, her] at HOK
  obtain ⟨rg, hrg⟩ : ∃ rg, crow { a with h := false } = rg := ⟨_, rfl⟩
  obtain ⟨ra, hra⟩ : ∃ ra, crow a = ra := ⟨_, rfl⟩
  obtain ⟨rb, hrb⟩ : ∃ rb, crow b = rb := ⟨_, rfl⟩
  obtain ⟨zr, hzr⟩ : ∃ zr, crow EC.zero = zr := ⟨_, rfl⟩
  have HZR := Lib.hid hzr
  rw [hrg] at K2 HLG HST
  rw [hra] at HLA HST
  rw [hrb] at K2 K3 HLB
  rw [hzr] at K3 HLZ
  rw [hra, hrb]
  clear hp her hra hrb hzr hrg
  obtain ⟨t0, V0, A0, B0⟩ := boxes3 w t ra rb
  have t0 := Lib.hid t0
  have V0 := Lib.hid V0
  have A0 := Lib.hid A0
  have B0 := Lib.hid B0
  go_enter Try.func9, Try.ntmps9
  go_wp2_with fail
  ((with_reducible refine (espeaks_any _).mono ?_); rintro e w1 ⟨rfl, h1⟩)
  have V1 := Lib.hid (V0.out.after h1)
  have A1 := Lib.hid (A0.out.after h1)
  have B1 := Lib.hid (B0.out.after h1)
  have t1 := Lib.hid (t0.out.trans (h1.mono t0.out.size))
  clear h1 V0 A0 B0 t0
  have HW1 := Lib.hid t1.out.size
  go_wp2_with (first | (with_reducible refine wpl_vload (.tmp 3) rfl rfl V2.out rfl ?_) | (with_reducible refine wpl_cload (.tmp 4) rfl rfl A2.out 0 (all41 HLG.out) HLG.out rfl ?_) | (with_reducible refine wpl_cload (.tmp 5) rfl rfl B2.out 0 (all41 HLB.out) HLB.out rfl ?_) | (with_reducible refine wpl_slice2 (.tmp 16) (.tmp 17) rfl rfl rfl rfl HLG.out HLB.out ?_) | ((with_reducible refine wpl_blk_bool false (fun _ => by kernel_rfl) (.tmp 13) (.const (.bool false)) rfl rfl A1.out 0 (by rw [HLA.out]; omega) rfl rfl rg HST.out ?_); intro w2 R2 g2 e2; have A2 := Lib.hid R2; have V2 := Lib.hid (V1.out.grown g2 (by simp)); have B2 := Lib.hid (B1.out.grown g2 (by simp)); have t2 := Lib.hid (t1.out.grown g2 t1.out.size (fun k e => by cases e; omega)); clear R2 g2 e2))
  ((with_reducible refine (K2.out _ _ rfl).mono ?_); rintro e w3 ⟨rfl, h3⟩)
  have N3 := Lib.hid (Blk.new w3 54 [.int .i64 p.c, .int .i64 p.m, .bool p.f])
  have V3 := Lib.hid ((V2.out.after h3).alloc (.cells #[.int .i64 p.c, .int .i64 p.m, .bool p.f] 54))
  have A3 := Lib.hid ((A2.out.after h3).alloc (.cells #[.int .i64 p.c, .int .i64 p.m, .bool p.f] 54))
  have B3 := Lib.hid ((B2.out.after h3).alloc (.cells #[.int .i64 p.c, .int .i64 p.m, .bool p.f] 54))
  have tx3 := Lib.hid (t2.out.trans (h3.mono t2.out.size))
  have t3 := Lib.hid (tx3.out.alloc tx3.out.size (.cells #[.int .i64 p.c, .int .i64 p.m, .bool p.f] 54))
  clear tx3
  clear h3 V2 A2 B2 t2
  go_wp2_with (first | (with_reducible refine wpl_vload (.tmp 3) rfl rfl V3.out rfl ?_) | (with_reducible refine wpl_cload (.tmp 4) rfl rfl A3.out 0 (all41 HLG.out) HLG.out rfl ?_) | (with_reducible refine wpl_cload (.tmp 5) rfl rfl B3.out 0 (all41 HLB.out) HLB.out rfl ?_) | (with_reducible refine wpl_bzero HZR.out rfl rfl ?_) | (with_reducible refine wpl_slice2 (.tmp 24) (.tmp 25) rfl rfl rfl rfl HLZ.out HLB.out ?_))
  ((with_reducible refine (K3.out _ _ (World.size_alloc _ _)).mono ?_); rintro e w4 ⟨rfl, h4⟩)
  have M4 := Lib.hid (Blk.new w4 54 [.int .i64 p.c, .int .i64 p.m, .bool p.f])
  have NB := Lib.hid (N3.out.after h4)
  have V4 := Lib.hid ((V3.out.after h4).alloc (.cells #[.int .i64 p.c, .int .i64 p.m, .bool p.f] 54))
  have A4 := Lib.hid ((A3.out.after h4).alloc (.cells #[.int .i64 p.c, .int .i64 p.m, .bool p.f] 54))
  have B4 := Lib.hid ((B3.out.after h4).alloc (.cells #[.int .i64 p.c, .int .i64 p.m, .bool p.f] 54))
  have N4 := Lib.hid ((N3.out.after h4).alloc (.cells #[.int .i64 p.c, .int .i64 p.m, .bool p.f] 54))
  have tx4 := Lib.hid (t3.out.trans (h4.mono t3.out.size))
  have t4 := Lib.hid (tx4.out.alloc tx4.out.size (.cells #[.int .i64 p.c, .int .i64 p.m, .bool p.f] 54))
  clear tx4
  clear h4 V3 A3 B3 N3 t3
  by_cases he : er = 0
  · obtain ⟨q1, q2⟩ := HOK.out he
    have c0 : ∀ ob, (w4.alloc ob).cell? ⟨w3.heap.size, 0, none⟩ = some (.int .i64 1) := fun ob => by rw [← q1]; exact (NB.out.alloc ob).cell 0
    have c1 : ∀ ob, (w4.alloc ob).cell? ⟨w3.heap.size, 1, none⟩ = some (.int .i64 2) := fun ob => by rw [← q2]; exact (NB.out.alloc ob).cell 1
    clear q1 q2 HOK
    subst he
    go_wp2_with (first | (with_reducible refine wpl_plload (.tmp 7) rfl rfl N4.out rfl ?_) | (with_reducible refine wpl_plload (.tmp 9) rfl rfl M4.out rfl ?_))
    go_ret
    exact ⟨rfl, t4.out⟩
  · clear HOK
    go_wp2_with (first | (with_reducible refine wpl_plload (.tmp 7) rfl rfl N4.out rfl ?_) | (with_reducible refine wpl_plload (.tmp 9) rfl rfl M4.out rfl ?_))
    go_ret
    exact ⟨rfl, t4.out⟩
end Go.Proofs.Yticigjkaangkmaa


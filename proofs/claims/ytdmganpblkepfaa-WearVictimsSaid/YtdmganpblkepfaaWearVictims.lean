/- The walk of WearVictims: it answers true, and changes nothing that was there. No condition. -/
import Derived.Test.YtdmganpblkepfaaWearOpen
import Derived.Test.YtdmganpblkepfaaWearRef
namespace Go.Proofs.Ytdmganpblkepfaa
open Go.RowKit WM
set_option maxRecDepth 100000 in
set_option maxHeartbeats 4000000 in
theorem wearVictims_any (v : Value) (w : World) (hn : ∃ L, Loads w w.heap.size v L) :
    Calls Try.prog 8 #[v] w fun e w' => e = .returned (.bool true) ∧ Below w.heap.size w w' := by
  obtain ⟨L, A, c, rfl, hr, _⟩ := hn
  have HR := Lib.hid hr
  clear hr
  by_cases hl : 100 < L.length
  · have d1 : decide ((100 : Int) < (L.length : Int)) = true := by simp; omega
    go_enter Try.func8, Try.ntmps8
    go_wp2_with fail
    refine (wearspeaks_any _).mono ?_
    rintro e' w2 ⟨rfl, hb2⟩
    go_wp2
    go_ret
    exact ⟨rfl, hb2⟩
  · have d1 : decide ((100 : Int) < (L.length : Int)) = false := by simp; omega
    go_enter Try.func8, Try.ntmps8
    go_wp2_with fail
    refine (wearspeaks_any _).mono ?_
    rintro e' w1 ⟨rfl, h1⟩
    have T1 := Lib.hid h1
    clear h1
    go_wp2_with fail
    ((with_reducible refine (loads_any A L c w1 w.heap.size T1.out.size (HR.out.below T1.out) (by omega)).mono ?_); rintro e w2 ⟨X, c', rfl, O2, h2⟩)
    have T2 := Lib.hid (T1.out.trans (h2.mono T1.out.size))
    have kv := victim_any X L c' w2 w2.heap.size (Nat.le_refl _) (loads_row O2) (by omega)
    have kr := fun w3 (h : Below w.heap.size w w3) => refvictim_any A L c w3 w.heap.size h.size (HR.out.below h) (by omega)
    clear O2 h2
    rcases hv : victim L with _ | j
    · rw [hv] at kv
      simp only [hv] at kr
      have KV := Lib.hid kv
      have KR := Lib.hid kr
      clear kv kr hv
      go_wp2_with fail
      refine KV.out.mono ?_
      rintro e w3 ⟨rfl, h3⟩
      have T3 := Lib.hid (T2.out.trans (h3.mono T2.out.size))
      clear h3
      go_wp2_with fail
      refine (KR.out _ T3.out).mono ?_
      rintro e w4 ⟨rfl, h4⟩
      have T4 := Lib.hid (T3.out.trans (h4.mono T3.out.size))
      clear h4
      simp only [optI]
      go_wp2
      go_ret
      exact ⟨rfl, T4.out⟩
    · rw [hv] at kv
      simp only [hv] at kr
      have KV := Lib.hid kv
      have KR := Lib.hid kr
      clear kv kr hv
      go_wp2_with fail
      refine KV.out.mono ?_
      rintro e w3 ⟨rfl, h3⟩
      have T3 := Lib.hid (T2.out.trans (h3.mono T2.out.size))
      clear h3
      go_wp2_with fail
      refine (KR.out _ T3.out).mono ?_
      rintro e w4 ⟨rfl, h4⟩
      have T4 := Lib.hid (T3.out.trans (h4.mono T3.out.size))
      clear h4
      simp only [optI]
      have d2 : decide ((0 : Int) ≤ (j : Int)) = true := by simp
      go_wp2
      go_ret
      exact ⟨rfl, T4.out⟩
end Go.Proofs.Ytdmganpblkepfaa

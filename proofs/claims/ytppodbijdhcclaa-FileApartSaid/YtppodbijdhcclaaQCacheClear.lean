/- Clear of a cache: nothing is changed. No condition. -/
import Derived.Test.YtppodbijdhcclaaQCacheJC
namespace Go.Proofs.Ytppodbijdhcclaa
open Go Go.RowKit Go.Maps
theorem run_clear_map {w : World} {m N : Nat} {D : DataW Value} (h : w.ownsMap Try.prog 3 chR m N D) : ∃ w', (∀ ty, (Builtin.clear_ #[87] ty #[.map (some m)]).run Try.prog w = .ok (.tuple #[]) w') ∧ w'.ownsMap Try.prog 3 chR m 0 (.map []) ∧ w.grownBy w' (some m) ∧ w'.heap.size = w.heap.size := by
  have hlt := h.lt
  obtain ⟨es, clock, hb, _, _, _⟩ := h
  refine ⟨ChangeMaps.setBlock w m (.map #[] clock), fun ty => ?_, ⟨#[], clock, ?_, ⟨by simp, MapKept.stamped_empty clock, by simp⟩, Nat.le_refl _, rfl⟩, World.mapTurned.grown ⟨es, clock, #[], clock, hb, rfl⟩, ?_⟩
  · simp [Builtin.clear_, run_underlying Try.underlying87, MapKept.run_getObj_map hb, MapKept.run_setObj_map _ hb, Result.andThen, ChangeMaps.setBlock]
  · simp [ChangeMaps.setBlock, hlt]
  · simp [ChangeMaps.setBlock]
set_option maxRecDepth 100000 in
set_option maxHeartbeats 4000000 in
theorem clear_cat (i : CI) (N : Nat) (P : Int → Option CE) (S : Nat → Prop) (w : World) (h : CAt w i N P S) :
    Calls Try.prog 17 #[.pointer (some ⟨i.q, 0, none⟩)] w fun e w' => e = .returned (.tuple #[]) ∧ w.grownBy w' (some i.m) ∧ CAt w' i 0 (fun _ => none) (fun _ => False) ∧ w'.heap.size = w.heap.size := by
  obtain ⟨c1, c2, c3, c4, c5⟩ := h.lt
  obtain ⟨a1, a2, a3, N0, D, f, a4, a5, a6, a7⟩ := id h
  obtain ⟨q, m, s, bs, th, mo⟩ := i
  simp only at a1 a2 a3 a5 c1 c2 c3 c4 c5 ⊢
  obtain ⟨w2, hrun, hm2, hg2, hs2⟩ := run_clear_map a5
  have q1 := Blk.cell a1 1
  simp only [List.getElem?_cons_succ, List.getElem?_cons_zero] at q1
  have HC := Lib.hid (show CAt w2 ⟨q, m, s, bs, th, mo⟩ 0 (fun _ => none) (fun _ => False) from ⟨Blk.grown a1 hg2 (by simp only [ne_eq, Option.some.injEq]; exact c4), a2.grown hg2 (by simp only [ne_eq, Option.some.injEq]; exact c5), fun b h => h.elim, 0, _, _, Nat.le_refl _, hm2, MpD.start, fun z => ⟨rfl, fun x e h => by cases h⟩⟩)
  have HG := Lib.hid hg2
  have HS := Lib.hid hs2
  clear h c1 c2 c3 c4 c5 a1 a2 a3 a4 a5 a6 a7 hm2 hg2 hs2
  go_enter Try.func17, Try.ntmps17
  go_wp2_with fail
  exact bodyPost_end (v := .tuple #[]) (by simp [results, Try.results17, go_sem]) rfl ⟨rfl, HG.out, HC.out, HS.out⟩
end Go.Proofs.Ytppodbijdhcclaa


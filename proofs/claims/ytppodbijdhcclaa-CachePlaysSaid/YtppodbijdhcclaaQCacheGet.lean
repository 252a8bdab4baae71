/- New and Get of the cache. No condition. -/
import Derived.Test.YtppodbijdhcclaaQCachePutM
namespace Go.Proofs.Ytppodbijdhcclaa
open Go Go.RowKit Go.Maps
set_option maxRecDepth 100000 in
set_option maxHeartbeats 4000000 in
theorem new_any (s : Nat) (w : World) :
    Calls Try.prog 15 #[.iface 26 (.pointer (some ⟨s, 0, none⟩))] w fun e w' => ∃ q m, e = .returned (.pointer (some ⟨q, 0, none⟩)) ∧ w.heap.size ≤ q ∧ w.heap.size ≤ m ∧ Cc w' q m s ∧ w'.ownsMap Try.prog 3 chR m 0 (.map []) ∧ Below w.heap.size w w' := by
  have M0 := Lib.hid (World.ownsMap_made w Try.prog 3 chR)
  have B0 := Lib.hid ((Below.refl w.heap.size w).alloc (Nat.le_refl _) (.map #[] 0))
  have hmm := @run_makeMap Try.prog
  have hC : Blk ((w.alloc (.map #[] 0)).alloc (.cells #[.iface 26 (.pointer (some ⟨s, 0, none⟩)), .map (some w.heap.size)] 89)) (w.alloc (.map #[] 0)).heap.size 89 [.iface 26 (.pointer (some ⟨s, 0, none⟩)), .map (some w.heap.size)] := heap_alloc_new _ _
  rw [World.size_alloc] at hC
  have HC := Lib.hid hC
  clear hC
  go_enter Try.func15, Try.ntmps15
  go_wp2_with fail
  go_ret
  exact ⟨w.heap.size + 1, w.heap.size, rfl, Nat.le_succ _, Nat.le_refl _, HC.out, M0.out.alloc _, B0.out.alloc B0.out.size _⟩
theorem zeroC (w : World) : (zeroValue 46).run Try.prog w = .ok (cval ⟨0, false, none, 0, 0⟩) w := by kernel_rfl
set_option maxRecDepth 100000 in
set_option maxHeartbeats 4000000 in
/-- a node that was changed -/
theorem get_own (q m s N : Nat) (f : Int → Option CV) (D : DataW Value) (k : Int) (x : CV) (l : List UInt8) (w : World) (hq : Cc w q m s) (hm : w.ownsMap Try.prog 3 chR m N D) (hf : MpD D f) (hx : f k = some x) (hl : Bytes w w.heap.size (.slice x.A x.n x.c) l) (hl2 : l.length ≤ 100000) :
    Calls Try.prog 22 #[.pointer (some ⟨q, 0, none⟩), .int .i64 k] w fun e w' => Below w.heap.size w w' ∧ if x.g then e = .returned (.tuple #[.slice none 0 0, .int .i64 61]) else ∃ A c, e = .returned (.tuple #[.slice A l.length c, .int .i64 0]) ∧ Own 5 w' w.heap.size (.slice A l.length c) l := by
  have q1 : w.cell? ⟨q, 1, none⟩ = some (.map (some m)) := Blk.cell hq 1
  have M0 := Lib.hid hm
  have HK := Lib.hid (hf k)
  obtain ⟨h1, h2⟩ := hf k
  have HW := Lib.hid (wfC (h2 x hx).1.2)
  obtain ⟨v, ps, hrun, hv⟩ := hm.look_ok cKey Try.underlying87 (zeroC w) (chR_mk _) (keyC HW.out)
  rw [(h2 x hx).2] at hv
  rw [h1, hx] at hrun
  obtain ⟨y, rfl⟩ := chR_inv _ _ hv
  rw [chR_mk] at hv
  have hyx : cval y = cval x := by
    have := congrArg Prod.fst (Option.some.inj hv)
    exact DataW.held.inj this
  rw [hyx] at hrun
  obtain ⟨xk, xg, xA, xn, xc⟩ := x
  have HL := Lib.hid hl
  have HLL : Hid (l.length = xn) := Lib.hid (by obtain ⟨_, _, e, _⟩ := id hl; simp only [Value.slice.injEq] at e; exact e.2.1.symm)
  simp only [cval, Option.isSome_some] at hrun
  have B0 := Lib.hid ((Below.refl w.heap.size w).alloc (Nat.le_refl _) (.cells #[.int .i64 xk, .bool xg, .slice xA xn xc] 46))
  have X0 := Lib.hid (Blk.new3c w (.int .i64 xk) (.bool xg) (.slice xA xn xc) 46)
  have x1 := X0.out.cell 1
  have x2 := X0.out.cell 2
  simp only [List.getElem?_cons_succ, List.getElem?_cons_zero] at x1 x2 HL
  clear hq hm hf hx hl h1 h2 hv hyx y HK M0
  go_enter Try.func22, Try.ntmps22
  cases xg with
  | true =>
    go_wp2_with fail
    go_ret2
    exact ⟨B0.out, rfl⟩
  | false =>
    have KC := Lib.hid (bclone_any (.slice xA xn xc) l _ ((HL.out.below B0.out).more B0.out.size) hl2)
    go_wp2_with ((with_reducible refine KC.out.mono ?_); rintro e w3 ⟨A3, c3, rfl, O3, b3⟩; have HO := Lib.hid O3; have HB := Lib.hid b3; clear KC O3 b3)
    go_ret2
    exact ⟨B0.out.trans (HB.out.mono B0.out.size), A3, c3, rfl, HO.out.lower B0.out.size⟩
end Go.Proofs.Ytppodbijdhcclaa


/- Changes of the cache where none counts: what was changed is gone, and wasn't there. No condition. -/
import Derived.Test.YtppodbijdhcclaaQCacheGet
namespace Go.Proofs.Ytppodbijdhcclaa
open Go Go.RowKit Go.Maps
theorem look_some {w : World} {m N : Nat} {D : DataW Value} {f : Int → Option CV} (hm : w.ownsMap Try.prog 3 chR m N D) (hf : MpD D f) {k : Int} {x : CV} (hx : f k = some x) :
    (Instr.lookup 87 (.map (some m)) (.int .i64 k) true).run Try.prog w = .ok (.tuple #[.agg #[.int .i64 x.k, .bool x.g, .slice x.A x.n x.c], .bool true]) w := by
  obtain ⟨h1, h2⟩ := hf k
  obtain ⟨v, ps, hrun, hv⟩ := hm.look_ok cKey Try.underlying87 (zeroC w) (chR_mk _) (keyC (wfC (h2 x hx).1.2))
  rw [(h2 x hx).2] at hv
  rw [h1, hx] at hrun
  obtain ⟨y, rfl⟩ := chR_inv _ _ hv
  rw [chR_mk] at hv
  have hyx : cval y = cval x := DataW.held.inj (congrArg Prod.fst (Option.some.inj hv))
  rw [hyx] at hrun
  exact hrun
theorem look_none {w : World} {m N : Nat} {D : DataW Value} {f : Int → Option CV} (hm : w.ownsMap Try.prog 3 chR m N D) (hf : MpD D f) {k : Int} (hk : (Lit.int .i64 k).wf = true) (hx : f k = none) :
    (Instr.lookup 87 (.map (some m)) (.int .i64 k) true).run Try.prog w = .ok (.tuple #[.agg #[.int .i64 0, .bool false, .slice none 0 0], .bool false]) w := by
  have h1 := (hf k).1
  rw [hx] at h1
  obtain ⟨v, ps, hrun, hv⟩ := hm.look_ok cKey Try.underlying87 (zeroC w) (chR_mk _) (keyC hk)
  rw [atKey_of_not_has h1] at hv
  rw [h1] at hrun
  obtain ⟨y, rfl⟩ := chR_inv _ _ hv
  rw [chR_mk] at hv
  have hyx : cval y = cval ⟨0, false, none, 0, 0⟩ := DataW.held.inj (congrArg Prod.fst (Option.some.inj hv))
  rw [hyx] at hrun
  exact hrun
set_option maxRecDepth 100000 in
set_option maxHeartbeats 8000000 in
theorem changes_none (q m s N : Nat) (f : Int → Option CV) (D : DataW Value) (bs : List ByteArray) (th : List Bool) (mo : Int) (w : World) (hq : Cc w q m s) (hs : Src w s bs th mo) (hm : w.ownsMap Try.prog 3 chR m N D) (hf : MpD D f)
    (hg : ∀ z x, f z = some x → x.g = true ∧ lhas (srcTo th 256) z = false) :
    Calls Try.prog 24 #[.pointer (some ⟨q, 0, none⟩)] w fun e w' => e = .returned (.slice none 0 0) ∧ Below w.heap.size w w' := by
  have z0 := zeroLive
  have Q0 := Lib.hid (show Blk w q 89 [.iface 26 (.pointer (some ⟨s, 0, none⟩)), .map (some m)] from hq)
  have M0 := Lib.hid hm
  have HF := Lib.hid hf
  have HG := Lib.hid hg
  have KL := Lib.hid (nlive_any s bs th mo w hs)
  obtain ⟨L0, hL0⟩ : ∃ L0, L0 = srcTo th 256 := ⟨_, rfl⟩
  have HL0 : Hid (L0.length = 32) := Lib.hid (by rw [hL0]; exact srcTo_length th 256)
  rw [← hL0] at KL HG
  have q0 := Blk.cell hq 0
  simp only [List.getElem?_cons_zero] at q0
  have ml := meth_live
  clear hq hs hm hf hL0 hg
  go_enter Try.func24, Try.ntmps24
  go_upto_region 3 with (first
    | ((with_reducible refine KL.out.mono ?_); rintro e w1 ⟨rfl, b1⟩; have H1 := Lib.hid b1; have A1 := Lib.hid (LArr.new w1 lzeros_length); clear KL b1 ml q0)
    | (with_reducible refine wpl_lstore (.tmp 4) (.tmp 12) rfl rfl A1.out rfl HL0.out rfl ?_; intro w3 A3' g3 e3; have A3 := Lib.hid A3'; have H3 := Lib.hid ((H1.out.alloc H1.out.size (.cells (cl lzeros) 53)).grown g3 (Nat.le_trans H1.out.size (by simp)) (fun k e => by cases e; exact H1.out.size)); clear A3' g3 e3 A1))
  obtain ⟨gv, hgv⟩ : ∃ gv, gv = w1.heap.size := ⟨_, rfl⟩
  rw [← hgv] at A3 ⊢
  clear hgv H1
  go_wp2_with fail
  go_loopw [3, 13] (fun l i wr => ∃ k : Nat, k ≤ 256 ∧ l = .slice none 0 0 ∧ i = .int .i64 k ∧ Hid (LArr wr gv L0) ∧ Hid (Below w.heap.size w wr)) (fun _ i _ => 256 - (intOf i).toNat)
  case atStart => exact ⟨0, Nat.zero_le _, rfl, rfl, A3, H3⟩
  case round =>
    clear A3 H3
    rename_i wr
    obtain ⟨k, hk, rfl, rfl, hA, hb⟩ := hrel
    have q1 : wr.cell? ⟨q, 1, none⟩ = some (.map (some m)) := (Q0.out.below hb.out Q0.out.lt).cell 1
    have MR := M0.out.kept (only_of_below hb.out none) (by simp)
    by_cases hlt : k < 256
    · have d1 : decide ((k : Int) < 256) = true := by simp; omega
      cases hfk : f (k : Int) with
      | none =>
        have hrun := look_none MR HF.out (wfC ⟨by omega, by omega⟩) hfk
        clear MR hfk
        go_wp2_with fail
        exact ⟨⟨k + 1, by omega, rfl, by go_num, Lib.hid (hA.out.alloc _), Lib.hid (hb.out.alloc hb.out.size _)⟩, by simp [intOf]; omega⟩
      | some x =>
        have hrun := look_some MR HF.out hfk
        have hxg := HG.out _ _ hfk
        rw [hxg.1] at hrun
        have A2 := Lib.hid (hA.out.alloc (.cells #[.int .i64 x.k, .bool true, .slice x.A x.n x.c] 46))
        have H2 := Lib.hid (hb.out.alloc hb.out.size (.cells #[.int .i64 x.k, .bool true, .slice x.A x.n x.c] 46))
        have x1 := (Blk.new3c wr (.int .i64 x.k) (.bool true) (.slice x.A x.n x.c) 46).cell 1
        simp only [List.getElem?_cons_succ, List.getElem?_cons_zero] at x1
        have KH := Lib.hid (has_any L0 HL0.out (k : Int) (wr.alloc (.cells #[.int .i64 x.k, .bool true, .slice x.A x.n x.c] 46)))
        rw [hxg.2] at KH
        clear MR hfk hxg hA hb
        go_wp2_with (first
          | (with_reducible refine wpl_lload (.tmp 4) rfl rfl A2.out rfl ?_)
          | ((with_reducible refine KH.out.mono ?_); rintro e w4 ⟨rfl, b4⟩; have A4 := Lib.hid (A2.out.after b4); have H4 := Lib.hid (H2.out.trans (b4.mono H2.out.size)); clear KH b4))
        exact ⟨⟨k + 1, by omega, rfl, by go_num, A4, H4⟩, by simp [intOf]; omega⟩
    · obtain rfl : k = 256 := by omega
      clear MR
      go_wp2_with fail
      go_ret
      exact ⟨rfl, hb.out⟩
end Go.Proofs.Ytppodbijdhcclaa


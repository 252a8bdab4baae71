/- The walk of slices.DeleteFunc of entries. No condition but that the entries are the call's own, and the names lie elsewhere. -/
import Derived.Test.YtkpojlnfagonbaaQInoDel
import Derived.Test.YtkpojlnfagonbaaQCore
namespace Go.Proofs.Ytkpojlnfagonbaa
open Go Go.RowKit
set_option maxRecDepth 100000 in
set_option maxHeartbeats 8000000 in
theorem delete_any (base gn : Nat) (A : Option Addr) (n c : Nat) (vx : Value) (es : List EN) (xs : List ByteArray) (w : World) (hb : base ≤ w.heap.size) (ho : OwnE w base (.slice A n c) es) (hn : es.length = n) (hn9 : n ≤ 1000) (hg : w.cell? ⟨gn, 0, none⟩ = some vx) (hgn : gn < base) (hx : Strs w base vx xs) (hxl : xs.length ≤ 1000) :
    Calls Try.prog 41 #[.slice A n c, .func (.func 42) #[] #[.pointer (some ⟨gn, 0, none⟩)]] w fun e w' =>
      ∃ A' m c', Hid ((wo es xs).length = m) ∧ e = .returned (.slice A' m c') ∧ OwnE w' base (.slice A' m c') (wo es xs) ∧ w.grownBy w' (Value.slice A n c).ownBlock := by
  have hoc := ho.shape
  have KI := Lib.hid (ifunc_any gn (.slice A n c) vx es xs w ho.ents (by omega) hg (hx.more hb) hxl)
  have KP : Hid (∀ (e : EN) (w' : World) (row : Option Nat), w.grownBy w' row → (∀ q, row = some q → base ≤ q) → Calls Try.prog 42 #[.agg #[.string e.n, .int .i64 e.i], .pointer (some ⟨gn, 0, none⟩)] w' fun x w2 => x = .returned (.bool (hasS xs e.n)) ∧ Below w'.heap.size w' w2) := Lib.hid (fun e w' row G hr => by
    have hk : ∀ p : Addr, p.block < base → w'.cell? p = w.cell? p := fun p hp => World.cell?_of_block (G.block p.block (by omega) (fun e => by have := hr _ e.symm; omega))
    exact pred_any gn vx xs e w' ((hk ⟨gn, 0, none⟩ hgn).trans hg) ((hx.keep hk).more (by have := G.size; omega)) hxl)
  have HN := Lib.hid hn
  unfold OwnE at ho
  rw [hn] at ho
  rcases ho.2 with ⟨h1, h0⟩ | ⟨g, cap, cur0, h1, hbg, hblk, hnc, hcap, hsz, ht⟩
  · cases h1
    obtain rfl : es = [] := List.eq_nil_of_length_eq_zero (by rw [hn, h0])
    clear hoc ho hg hx KP
    go_enter Try.func41, Try.ntmps41
    go_wp2_with fail
    refine KI.out.mono ?_
    rintro e w1 ⟨z, hz, rfl, hb1⟩
    have hz1 : z = -1 := by
      rcases hz.out with ⟨h, _⟩ | ⟨i, _, h, _⟩
      · exact h
      · simp at h
    subst hz1
    go_wp2_with fail
    go_ret
    exact ⟨none, 0, 0, Lib.hid rfl, rfl, OwnE.nil _ _, ⟨hb1.os, hb1.tape, hb1.output, hb1.size, fun k hk _ => hb1.block k hk⟩⟩
  · cases h1
    have hB : Blk w g 32 cur0.toList := by unfold Blk; rw [Array.toArray_toList]; exact hblk
    have HB := Lib.hid hB
    have HL : Hid (cur0.toList.length = c * 2) := Lib.hid (by simpa using hsz)
    have HT := Lib.hid ht
    have HO := Lib.hid ho
    clear hoc ho hg hx hblk hB hsz ht hn
    go_enter Try.func41, Try.ntmps41
    go_wp2_with fail
    refine KI.out.mono ?_
    rintro e w1 ⟨z, hz, rfl, hb1⟩
    rcases hz.out with ⟨rfl, hnone⟩ | ⟨i0, rfl, hi0, hyes, hnone⟩
    · have hw : wo es xs = es := by
        have := wo_none (es := es) (xs := xs) es.length (Nat.le_refl _) hnone
        rwa [List.take_length] at this
      have HW := Lib.hid hw
      clear hw hnone hz
      go_wp2_with fail
      go_ret
      refine ⟨_, n, c, Lib.hid (by rw [HW.out, HN.out]), rfl, ?_, ⟨hb1.os, hb1.tape, hb1.output, hb1.size, fun k hk _ => hb1.block k hk⟩⟩
      rw [HW.out]
      unfold OwnE
      rw [HN.out]
      exact World.ownsRow.kept (row := none) HO.out (only_of_below hb1 none) (by cases (Value.slice (some ⟨g, 0, none⟩) n c).ownBlock <;> simp)
    · have hi0n : i0 < n := by have := HN.out; omega
      have hneg : ((i0 : Int) == -1) = false := by simp
      have H1 := wo_none (es := es) (xs := xs) i0 (by omega) hnone
      have H2 : Hid (es.take i0 = wo (es.take (i0 + 1)) xs) := Lib.hid (by rw [wo_next hi0, if_pos hyes, H1])
      have HG1 : Hid (w.grownBy w1 (some g)) := Lib.hid ⟨hb1.os, hb1.tape, hb1.output, hb1.size, fun k hk _ => hb1.block k hk⟩
      have HB1 := Lib.hid (HB.out.after hb1)
      clear hz hnone hyes H1 hb1 KI hi0
      go_wp2_with fail
      clear hneg
      go_loopw [5, 6] (fun iv jv wx => ∃ i j R cur, iv = .int .i64 (i : Nat) ∧ jv = .int .i64 (j : Nat) ∧ i < j ∧ j ≤ n ∧ Hid (List.length R = n) ∧ Hid (List.take i R = wo (es.take j) xs) ∧ Hid (List.drop j R = es.drop j) ∧ Hid (Blk wx g 32 cur) ∧ Hid (List.length cur = c * 2) ∧ Hid (List.take (n * 2) cur = erows R) ∧ Hid (w.grownBy wx (some g))) (fun _ jv _ => n - (intOf jv).toNat)
      case atStart => exact ⟨i0, i0 + 1, es, cur0.toList, rfl, by go_num, by omega, by omega, HN, H2, Lib.hid rfl, HB1, HL, HT, HG1⟩
      case round =>
        clear H2 HB1 HL HT HG1
        obtain ⟨i, j, R, cur, rfl, rfl, hij, hj, hRn, hR1, hR2, hB, hL, hT, hG⟩ := hrel
        by_cases hlt : j < n
        · have hje : j < es.length := by have := HN.out; omega
          have hel := row_elem hT.out hRn.out hlt
          rw [at_drop hR2.out] at hel
          obtain ⟨E, hE⟩ : ∃ E, E = atE es j := ⟨_, rfl⟩
          rw [← hE] at hel
          have HEL := Lib.hid hel
          have W5 := Lib.hid ((Below.refl wr.heap.size wr).alloc (Nat.le_refl _) (.cells #[.string E.n, .int .i64 E.i] 32))
          have X5 := Lib.hid (Blk.new wr 32 [.string E.n, .int .i64 E.i])
          have G5 : Hid (w.grownBy (wr.alloc (.cells #[.string E.n, .int .i64 E.i] 32)) (some g)) := Lib.hid (hG.out.trans (World.grownBy_alloc wr _ _))
          have KE := Lib.hid (KP.out E _ (some g) G5.out (fun q e => by cases e; exact hbg))
          have X6 := Lib.hid (fun w' => X5.out.after (w' := w'))
          have B6 := Lib.hid (fun w' => (hB.out.after W5.out).after (w' := w'))
          have NGX : Hid (some g ≠ some wr.heap.size) := Lib.hid (by simp only [ne_eq, Option.some.injEq]; have := hB.out.lt; omega)
          cases hh : hasS xs E.n with
          | true =>
            rw [hh] at KE
            have HSK := Lib.hid (skip_next hje hR1.out hR2.out (by rw [← hE]; exact hh))
            clear hh hel hE
            go_wp2_with (first | (with_reducible refine wpl_seg_load aggE sizeE (.tmp 24) rfl rfl hB.out (j * 2) [.string E.n, .int .i64 E.i] HEL.out rfl rfl ?_) | ((with_reducible refine KE.out.mono ?_); rintro e w6 ⟨rfl, hb6⟩))
            have G6 : w.grownBy w6 (some g) := G5.out.trans ⟨hb6.os, hb6.tape, hb6.output, hb6.size, fun k hk _ => hb6.block k hk⟩
            exact ⟨⟨i, j + 1, R, cur, rfl, by go_num, by omega, by omega, hRn, Lib.hid HSK.out.1, Lib.hid HSK.out.2, Lib.hid (B6.out _ hb6), hL, hT, Lib.hid G6⟩, by simp [intOf]; omega⟩
          | false =>
            rw [hh] at KE
            have HST := Lib.hid (set_next (by omega : i ≤ j) hje (by rw [hRn.out, HN.out]) hR1.out hR2.out (by rw [← hE]; exact hh))
            rw [← hE] at HST
            have HPT := Lib.hid (row_put hT.out hRn.out (by omega : i < n) E)
            have hfit : i * 2 + 2 ≤ cur.length := by have := hL.out; omega
            have h1 : ∀ v ∈ [Value.string E.n, .int .i64 E.i], v.oneCell' = true := fun v hv => erow_one (es := [E]) v (by simpa [erows, erow] using hv)
            have HL2 : Hid ((segSet cur (i * 2) [.string E.n, .int .i64 E.i]).length = c * 2) := Lib.hid (by rw [segSet_length (by simpa using hfit)]; exact hL.out)
            clear hh hel hE
            go_wp2_with (first | (with_reducible refine wpl_seg_load aggE sizeE (.tmp 24) rfl rfl hB.out (j * 2) [.string E.n, .int .i64 E.i] HEL.out rfl rfl ?_) | ((with_reducible refine KE.out.mono ?_); rintro e w6 ⟨rfl, hb6⟩; have BX := Lib.hid (X6.out _ hb6); have c60 : w6.cell? ⟨wr.heap.size, 0, none⟩ = some (.string E.n) := BX.out.cell 0; have c61 : w6.cell? ⟨wr.heap.size, 1, none⟩ = some (.int .i64 E.i) := BX.out.cell 1; have BB6 := Lib.hid (B6.out _ hb6)) | ((with_reducible refine wpl_seg_store sizeE (.tmp 33) (.tmp 32) rfl rfl BB6.out (i * 2) [.string E.n, .int .i64 E.i] rfl hfit h1 rfl rfl _ rfl ?_); intro w7 B7 g7 e7))
            have G6 : w.grownBy w7 (some g) := (G5.out.trans ⟨hb6.os, hb6.tape, hb6.output, hb6.size, fun k hk _ => hb6.block k hk⟩).trans g7
            exact ⟨⟨i + 1, j + 1, R.set i E, _, by go_num, by go_num, by omega, by omega, Lib.hid (by rw [HST.out.2.2, HN.out]), Lib.hid HST.out.1, Lib.hid HST.out.2.1, Lib.hid B7, HL2, HPT, Lib.hid G6⟩, by simp [intOf]; omega⟩
        · obtain rfl : j = n := by omega
          have hcl := clear_row (w := wr) (g := g) (o := i * 2) (k := j - i) (cp := c - i) hB.out (by have := hL.out; omega)
          obtain ⟨w9, Z, hcr, hZ, B9, G9⟩ := hcl
          have HCR := Lib.hid hcr
          have hin : i ≤ j := by omega
          have hb4 : ¬ (c = i) := by omega
          have HZ := Lib.hid hZ
          have HB9 := Lib.hid B9
          have HG9 := Lib.hid G9
          clear hcr hZ B9 G9
          have hce := HCR.out
          go_wp2_with fail
          clear hce
          go_ret
          have hwo : R.take i = wo es xs := by rw [hR1.out, List.take_of_length_le (by have := HN.out; omega)]
          have hil : (wo es xs).length = i := by rw [← hwo, List.length_take]; have := hRn.out; omega
          refine ⟨_, i, c, Lib.hid hil, rfl, ?_, hG.out.trans HG9.out⟩
          unfold OwnE
          rw [hil]
          refine ⟨by rw [erows_length, hil], .inr ⟨g, c, _, rfl, hbg, HB9.out, by omega, hcap, ?_, ?_⟩⟩
          · rw [List.size_toArray, List.length_append, List.length_append, List.length_take, HZ.out, List.length_drop, hL.out]
            omega
          · have h9 : cur.take (i * 2) = erows (R.take i) := by
              have h8 : cur.take (i * 2) = (cur.take (j * 2)).take (i * 2) := by rw [List.take_take, Nat.min_eq_left (by omega)]
              have h7 : erows R = erows (R.take i) ++ erows (R.drop i) := by rw [← erows_append, List.take_append_drop]
              rw [h8, hT.out, h7, List.take_append_of_le_length (by rw [erows_length, List.length_take]; have := hRn.out; omega), List.take_of_length_le (by rw [erows_length, List.length_take]; omega)]
            rw [List.toList_toArray, List.append_assoc, List.take_append_of_le_length (by rw [List.length_take, hL.out]; omega), List.take_take, Nat.min_self, h9, hwo]
end Go.Proofs.Ytkpojlnfagonbaa


/- The document's cache: Changes. No condition. -/
import Derived.Test.YtppodbijdhcclaaQRefPut
import Derived.Test.YtppodbijdhcclaaQConv
import Derived.RegionTactic
import Derived.Deep.RegionHeld3
namespace Go.Proofs.Ytppodbijdhcclaa
open Go Go.RowKit
/-- one that is gone has no body -/
def PGone (P : Int → Option CE) : Prop := ∀ z e, P z = some e → e.gone = true → e.body = []
theorem PGone.none : PGone (fun _ => none) := fun z e h => by cases h
theorem PGone.putTo {P : Int → Option CE} (h : PGone P) (cs : List CV) (ls : List (List UInt8)) : ∀ k, PGone (putTo P cs ls k)
  | 0 => h
  | k + 1 => fun z e he hg => by
    have h1 : putP (Go.Proofs.Ytppodbijdhcclaa.putTo P cs ls k) (cs.getD k ⟨0, false, .none, 0, 0⟩).k (cs.getD k ⟨0, false, .none, 0, 0⟩).g (ls.getD k []) z = some e := he
    unfold putP at h1
    split at h1
    · cases h1
      dsimp only at hg ⊢
      rw [if_pos hg]
    · exact PGone.putTo h cs ls k z e h1 hg
set_option maxRecDepth 100000 in
set_option maxHeartbeats 16000000 in
theorem refChanges_any (r : Nat) (bs : List ByteArray) (th : List Bool) (P : Int → Option CE) (mo : Int) (w : World) (h : RcP w r bs th P mo) (hP : PGood P) (hG : PGone P) :
    Calls Try.prog 41 #[.pointer (some ⟨r, 0, none⟩)] w fun e w' => ChgC w (chgTo th P 256) e w' := by
  have HR := Lib.hid h
  have HP := Lib.hid hP
  have HG := Lib.hid hG
  have B0 := Lib.hid ((Below.refl w.heap.size w).alloc (Nat.le_refl _) (.cells #[] 46))
  have C0 := Lib.hid (ChOwn.made w w.heap.size (Nat.le_refl _) w.heap.size rfl)
  clear h hP hG
  go_enter Try.func41, Try.ntmps41
  go_wp2_with fail
  go_loopw [3, 4] (fun l i wr => ∃ (k n : Nat) (A : Option Addr) (c : Nat) (cs : List CV), k ≤ 256 ∧ n ≤ k ∧ l = .slice A n c ∧ i = .int .i64 k ∧ Hid (ChOwn wr w.heap.size (.slice A n c) cs ((chgTo th P k).map chBody)) ∧ Hid (cs.map kg = (chgTo th P k).map chKg ∧ cs.length = n) ∧ Hid (Below w.heap.size w wr)) (fun _ i _ => 256 - (intOf i).toNat)
  case atStart => exact ⟨0, 0, _, _, [], Nat.zero_le _, Nat.le_refl _, rfl, rfl, C0, Lib.hid ⟨rfl, rfl⟩, B0⟩
  case round =>
    clear C0 B0
    rename_i wr
    obtain ⟨k, n, A, c, cs, hk, hnk, rfl, rfl, hO, hM, hb⟩ := hrel
    by_cases hlt : k < 256
    · have d1 : decide ((k : Int) < 256) = true := by simp; omega
      have d4 : (k : Int) < 256 := by omega
      have d5 : ¬ 256 ≤ k := by omega
      have d6 : ¬ (256 : Int) ≤ (k : Int) := by omega
      have R1 := Rc.after HR.out (hb.out.mono (Nat.le_refl _))
      have c1 := R1.flag hlt
      rw [chgL_get _ hlt] at c1
      have c2 := (R1.now).there hlt
      rw [overT_get _ _ hlt] at c2
      have c3 := (R1.old).there hlt
      have c4 := (R1.now).body hlt
      rw [overB_get _ _ hlt] at c4
      simp only [Nat.zero_add] at c3
      clear R1
      cases he : P (k : Int) with
      | none =>
        rw [he] at c1 c2 c4
        have HN1 : Hid (chgTo th P (k + 1) = chgTo th P k) := Lib.hid (chgTo_no (fun e h => by rw [he] at h; cases h))
        simp only [Option.isSome_none] at c1
        clear he c4
        go_wp2_with fail
        exact ⟨⟨k + 1, n, A, c, cs, by omega, by omega, rfl, by go_num, Lib.hid (by rw [HN1.out]; exact hO.out), Lib.hid (by rw [HN1.out]; exact hM.out), hb⟩, by simp [intOf]; omega⟩
      | some e =>
        rw [he] at c1 c2 c4
        simp only [Option.isSome_some] at c1
        dsimp only at c2 c4
        obtain ⟨eg, eb⟩ := e
        dsimp only at c2 c4
        have HE := Lib.hid he
        have HEB : Hid (eb.length ≤ 224) := Lib.hid (HP.out _ _ he).2
        have HB0 : Hid (chBody ((k : Int), (⟨eg, eb⟩ : CE)) = eb) := Lib.hid (by
          unfold chBody
          cases eg with
          | true => rw [if_pos rfl]; exact (HG.out _ _ he rfl).symm
          | false => rfl)
        obtain ⟨tb, htb⟩ : ∃ tb, tb = th.getD k false := ⟨_, rfl⟩
        rw [← htb] at c3
        have HTB := Lib.hid htb
        clear he htb
        by_cases hcount : (!eg || tb) = true
        · have HN1 := Lib.hid (chgTo_yes (th := th) HE.out (by rw [← HTB.out]; exact hcount))
          have HCN := Lib.hid hcount
          clear hcount
          cases eg with
          | false =>
            go_upto_region 6 with (fail)
            have hcv : ∃ c5 X5, (convert 9 44 (.string ⟨eb.toArray⟩)).run Try.prog wr.drew = .ok (.slice (some ⟨wr.drew.heap.size, 0, none⟩) eb.length c5) X5 ∧ Below wr.drew.heap.size wr.drew X5 ∧ BytesS X5 (fun b => wr.drew.heap.size ≤ b ∧ b < X5.heap.size) (.slice (some ⟨wr.drew.heap.size, 0, none⟩) eb.length c5) eb := by
              obtain ⟨c5, X5, h1, h2, h3⟩ := conv_any ⟨eb.toArray⟩ (by rw [Lib.size_eq]; have := HEB.out; simp; omega) wr.drew
              exact ⟨c5, X5, h1, h2, h3⟩
            obtain ⟨c5, X5, hrun, hx5, hbs5⟩ := hcv
            have X5B := Lib.hid hx5
            have X5S := Lib.hid hbs5
            have C5 := Lib.hid (ChOwn.below (w := wr.drew) (w' := X5) ⟨hO.out.row, hO.out.len, hO.out.bods⟩ hx5)
            have T5 := Lib.hid (hb.out.drew.trans (hx5.mono hb.out.size))
            have HBS := Lib.hid hb.out.size
            have HOB : Hid (∀ b, (Value.slice A n c).ownBlock = some b → b < wr.heap.size) := Lib.hid (fun b e => (World.ownsRow.lt hO.out.row b e).2)
            have CW : wr.drew.cell? ⟨r, 512 + 256 + k, none⟩ = some (.bool true) ∧ wr.drew.cell? ⟨r, 512 + k, none⟩ = some (.string ⟨eb.toArray⟩) := ⟨c2, c4⟩
            have CX : X5.cell? ⟨r, 512 + 256 + k, none⟩ = some (.bool true) ∧ X5.cell? ⟨r, 512 + k, none⟩ = some (.string ⟨eb.toArray⟩) := ⟨(hx5.cell (p := ⟨r, 512 + 256 + k, none⟩) (Nat.lt_of_lt_of_le (Rc.lt HR.out) hb.out.size)).trans c2, (hx5.cell (p := ⟨r, 512 + k, none⟩) (Nat.lt_of_lt_of_le (Rc.lt HR.out) hb.out.size)).trans c4⟩
            have HRL : Hid (r < X5.heap.size) := Lib.hid (Nat.lt_of_lt_of_le (Nat.lt_of_lt_of_le (Rc.lt HR.out) hb.out.size) hx5.size)
            clear hx5 hbs5 c1 c2 c3 c4 hO hb
            go_wp2_with fail
            refine wp_region_held_drew (S := (fun w2 => w2.cell? ⟨r, 512 + 256 + k, none⟩ = some (.bool true) ∧ w2.cell? ⟨r, 512 + k, none⟩ = some (.string ⟨eb.toArray⟩))) (by kernel_rfl) CW (fun _ => ?_)
            refine wpAnyH_take (i := 0) (v := .slice A n c) rfl (by kernel_rfl) (by kernel_rfl) (by kernel_rfl) (fun _ _ _ h => h) (Or.inl ⟨by kernel_rfl, fun w _ => by go_simp⟩) CW ?_
            simp only [Act.put, List.getElem_toArray, List.getElem_cons_zero, List.setIfInBounds_toArray, List.set_cons_zero, List.set_cons_succ]
            refine wpAnyH_take (i := 1) (v := .int .i64 (k : Int)) rfl (by kernel_rfl) (by kernel_rfl) (by kernel_rfl) (fun _ _ _ h => h) (Or.inl ⟨by kernel_rfl, fun w _ => by go_simp⟩) CW ?_
            simp only [Act.put, List.getElem_toArray, List.getElem_cons_zero, List.getElem_cons_succ, List.setIfInBounds_toArray, List.set_cons_zero, List.set_cons_succ]
            refine wpAnyH_take (i := 2) (v := .pointer (some ⟨r, 0, none⟩)) rfl (by kernel_rfl) (by kernel_rfl) (by kernel_rfl) (fun _ _ _ h => h) (Or.inl ⟨by kernel_rfl, fun w _ => by go_simp⟩) CW ?_
            simp only [Act.put, List.getElem_toArray, List.getElem_cons_zero, List.getElem_cons_succ, List.setIfInBounds_toArray, List.set_cons_zero, List.set_cons_succ]
            refine wpAnyH_take (i := 3) (v := .int .i64 (k : Int)) rfl (by kernel_rfl) (by kernel_rfl) (by kernel_rfl) (fun _ _ _ h => h) (Or.inl ⟨by kernel_rfl, fun w _ => by go_simp⟩) CW ?_
            simp only [Act.put, List.getElem_toArray, List.getElem_cons_zero, List.getElem_cons_succ, List.setIfInBounds_toArray, List.set_cons_zero, List.set_cons_succ]
            refine wpAnyH_take (i := 4) (v := .pointer (some ⟨r, 0, none⟩)) rfl (by kernel_rfl) (by kernel_rfl) (by kernel_rfl) (fun _ _ _ h => h) (Or.inl ⟨by kernel_rfl, fun w _ => by go_simp⟩) CW ?_
            simp only [Act.put, List.getElem_toArray, List.getElem_cons_zero, List.getElem_cons_succ, List.setIfInBounds_toArray, List.set_cons_zero, List.set_cons_succ]
            refine wpAnyH_take (i := 5) (v := .pointer (some ⟨r, 512, none⟩)) rfl (by kernel_rfl) (by kernel_rfl) (by kernel_rfl) (fun _ _ _ h => h) (Or.inl ⟨by kernel_rfl, fun w _ => by go_simp⟩) CW ?_
            simp only [Act.put, List.getElem_toArray, List.getElem_cons_zero, List.getElem_cons_succ, List.setIfInBounds_toArray, List.set_cons_zero, List.set_cons_succ]
            refine wpAnyH_take (i := 6) (v := .pointer (some ⟨r, 512 + 256, none⟩)) rfl (by kernel_rfl) (by kernel_rfl) (by kernel_rfl) (fun _ _ _ h => h) (Or.inl ⟨by kernel_rfl, fun w _ => by go_simp⟩) CW ?_
            simp only [Act.put, List.getElem_toArray, List.getElem_cons_zero, List.getElem_cons_succ, List.setIfInBounds_toArray, List.set_cons_zero, List.set_cons_succ]
            refine wpAnyH_take (i := 7) (v := .pointer (some ⟨r, 512 + 256 + k, none⟩)) rfl (by kernel_rfl) (by kernel_rfl) (by kernel_rfl) (fun _ _ _ h => h) (Or.inl ⟨by kernel_rfl, fun w _ => by go_simp⟩) CW ?_
            simp only [Act.put, List.getElem_toArray, List.getElem_cons_zero, List.getElem_cons_succ, List.setIfInBounds_toArray, List.set_cons_zero, List.set_cons_succ]
            refine wpAnyH_take (i := 8) (v := .bool true) rfl (by kernel_rfl) (by kernel_rfl) (by kernel_rfl) (fun _ _ _ h => h) (yields_one (ty := 4) (fun w => by kernel_rfl) (.tmp 41) (by kernel_rfl) (by kernel_rfl) (by kernel_rfl) (fun w2 h => h.1)) CW ?_
            simp only [Act.put, List.getElem_toArray, List.getElem_cons_zero, List.getElem_cons_succ, List.setIfInBounds_toArray, List.set_cons_zero, List.set_cons_succ]
            refine wpAnyH_take (i := 9) (v := .bool false) rfl (by kernel_rfl) (by kernel_rfl) (by kernel_rfl) (fun _ _ _ h => h) (Or.inl ⟨by kernel_rfl, fun w _ => by go_simp⟩) CW ?_
            simp only [Act.put, List.getElem_toArray, List.getElem_cons_zero, List.getElem_cons_succ, List.setIfInBounds_toArray, List.set_cons_zero, List.set_cons_succ]
            refine wpAnyH_take (i := 10) (v := .pointer (some ⟨r, 0, none⟩)) rfl (by kernel_rfl) (by kernel_rfl) (by kernel_rfl) (fun _ _ _ h => h) (Or.inl ⟨by kernel_rfl, fun w _ => by go_simp⟩) CW ?_
            simp only [Act.put, List.getElem_toArray, List.getElem_cons_zero, List.getElem_cons_succ, List.setIfInBounds_toArray, List.set_cons_zero, List.set_cons_succ]
            refine wpAnyH_take (i := 11) (v := .int .i64 (k : Int)) rfl (by kernel_rfl) (by kernel_rfl) (by kernel_rfl) (fun _ _ _ h => h) (Or.inl ⟨by kernel_rfl, fun w _ => by go_simp⟩) CW ?_
            simp only [Act.put, List.getElem_toArray, List.getElem_cons_zero, List.getElem_cons_succ, List.setIfInBounds_toArray, List.set_cons_zero, List.set_cons_succ]
            refine wpAnyH_take (i := 12) (v := .pointer (some ⟨r, 0, none⟩)) rfl (by kernel_rfl) (by kernel_rfl) (by kernel_rfl) (fun _ _ _ h => h) (Or.inl ⟨by kernel_rfl, fun w _ => by go_simp⟩) CW ?_
            simp only [Act.put, List.getElem_toArray, List.getElem_cons_zero, List.getElem_cons_succ, List.setIfInBounds_toArray, List.set_cons_zero, List.set_cons_succ]
            refine wpAnyH_take (i := 13) (v := .pointer (some ⟨r, 512, none⟩)) rfl (by kernel_rfl) (by kernel_rfl) (by kernel_rfl) (fun _ _ _ h => h) (Or.inl ⟨by kernel_rfl, fun w _ => by go_simp⟩) CW ?_
            simp only [Act.put, List.getElem_toArray, List.getElem_cons_zero, List.getElem_cons_succ, List.setIfInBounds_toArray, List.set_cons_zero, List.set_cons_succ]
            refine wpAnyH_take (i := 14) (v := .pointer (some ⟨r, 512, none⟩)) rfl (by kernel_rfl) (by kernel_rfl) (by kernel_rfl) (fun _ _ _ h => h) (Or.inl ⟨by kernel_rfl, fun w _ => by go_simp⟩) CW ?_
            simp only [Act.put, List.getElem_toArray, List.getElem_cons_zero, List.getElem_cons_succ, List.setIfInBounds_toArray, List.set_cons_zero, List.set_cons_succ]
            refine wpAnyH_take (i := 15) (v := .pointer (some ⟨r, 512 + k, none⟩)) rfl (by kernel_rfl) (by kernel_rfl) (by kernel_rfl) (fun _ _ _ h => h) (Or.inl ⟨by kernel_rfl, fun w _ => by go_simp⟩) CW ?_
            simp only [Act.put, List.getElem_toArray, List.getElem_cons_zero, List.getElem_cons_succ, List.setIfInBounds_toArray, List.set_cons_zero, List.set_cons_succ]
            refine wpAnyH_take (i := 16) (v := .string ⟨eb.toArray⟩) rfl (by kernel_rfl) (by kernel_rfl) (by kernel_rfl) (fun _ _ _ h => h) (yields_one (ty := 9) (fun w => by kernel_rfl) (.tmp 49) (by kernel_rfl) (by kernel_rfl) (by kernel_rfl) (fun w2 h => h.2)) CW ?_
            simp only [Act.put, List.getElem_toArray, List.getElem_cons_zero, List.getElem_cons_succ, List.setIfInBounds_toArray, List.set_cons_zero, List.set_cons_succ]
            refine wpAnyH_ready (rs := [17]) (by kernel_rfl) (by simp) (AllReadyH.cons rfl (fun K hK => ?_) AllReadyH.nil)
            go_simp
            refine hK _ _ CX (fun _ => ?_)
            clear hK K
            obtain ⟨g5, hg5⟩ : ∃ g5, g5 = wr.drew.heap.size := ⟨_, rfl⟩
            have HG5 : Hid (w.heap.size ≤ g5 ∧ g5 = wr.heap.size) := Lib.hid ⟨by rw [hg5]; exact HBS.out, hg5⟩
            rw [show wr.heap.size = g5 from hg5.symm]
            rw [← hg5] at X5S X5B
            clear hg5 hrun
            refine wpAnyH_take (i := 18) (v := .agg #[.int .i64 (k : Int), .bool false, .slice (some ⟨g5, 0, none⟩) eb.length c5]) rfl (by kernel_rfl) (by kernel_rfl) (by kernel_rfl) (fun _ _ _ h => h) (Or.inl ⟨by kernel_rfl, fun w _ => by go_simp⟩) CX ?_
            simp only [Act.put, List.getElem_toArray, List.getElem_cons_zero, List.getElem_cons_succ, List.setIfInBounds_toArray, List.set_cons_zero, List.set_cons_succ]
            refine wpAnyH_ready (rs := [19]) (by kernel_rfl) (by simp) (AllReadyH.cons rfl (fun K hK => ?_) AllReadyH.nil)
            go_simp
            have B6 := Lib.hid ((Below.refl X5.heap.size X5).alloc (Nat.le_refl _) (.cells #[.int .i64 (k : Int), .bool false, .slice (some ⟨g5, 0, none⟩) eb.length c5] 46))
            have R6 := Lib.hid (row_one X5 ⟨(k : Int), false, some ⟨g5, 0, none⟩, eb.length, c5⟩ (X5.heap.size + 1) (Nat.lt_succ_self _))
            have C6 := Lib.hid (C5.out.below B6.out)
            have N6 : Hid (BytesS (X5.alloc (.cells #[.int .i64 (k : Int), .bool false, .slice (some ⟨g5, 0, none⟩) eb.length c5] 46)) (fun b => w.heap.size ≤ b ∧ b < (X5.alloc (.cells #[.int .i64 (k : Int), .bool false, .slice (some ⟨g5, 0, none⟩) eb.length c5] 46)).heap.size ∧ (Value.slice A n c).ownBlock ≠ some b) (.slice (some ⟨g5, 0, none⟩) eb.length c5) eb) := Lib.hid (((X5S.out.grown (only_of_below B6.out none) (by simp)).more (fun b h => ⟨by have := HG5.out; omega, Nat.lt_of_lt_of_le h.2 B6.out.size, fun e => by have h2 : b < wr.heap.size := HOB.out b e; have := HG5.out; omega⟩)))
            have T6 := Lib.hid (T5.out.trans (B6.out.mono T5.out.size))
            have HG6 : Hid (w.heap.size ≤ (X5.alloc (.cells #[.int .i64 (k : Int), .bool false, .slice (some ⟨g5, 0, none⟩) eb.length c5] 46)).heap.size) := Lib.hid T6.out.size
            have HW6 := Lib.hid (C6.out.row)
            rw [hM.out.2] at HW6
            have CX6 : (X5.alloc (.cells #[.int .i64 (k : Int), .bool false, .slice (some ⟨g5, 0, none⟩) eb.length c5] 46)).cell? ⟨r, 512 + 256 + k, none⟩ = some (.bool true) ∧ (X5.alloc (.cells #[.int .i64 (k : Int), .bool false, .slice (some ⟨g5, 0, none⟩) eb.length c5] 46)).cell? ⟨r, 512 + k, none⟩ = some (.string ⟨eb.toArray⟩) := ⟨(B6.out.cell (p := ⟨r, 512 + 256 + k, none⟩) HRL.out).trans CX.1, (B6.out.cell (p := ⟨r, 512 + k, none⟩) HRL.out).trans CX.2⟩
            refine hK _ _ CX6 (fun _ => ?_)
            clear hK K
            refine wpAnyH_ready (rs := [20]) (by kernel_rfl) (by simp) (AllReadyH.cons rfl (fun K hK => ?_) AllReadyH.nil)
            refine step_app_row rowC (by decide) (by kernel_rfl) (.tmp 34) (.tmp 53) (by kernel_rfl) (by kernel_rfl) HW6.out ⟨X5.heap.size, 0, none⟩ 1 1 (crow ⟨(k : Int), false, some ⟨g5, 0, none⟩, eb.length, c5⟩) rfl (by decide) (by kernel_rfl) (X5.heap.size + 1) R6.out (crow_one _) (by omega) (by decide) HG6.out (n + 1) rfl ?_
            intro A10 c10 w10 r10 g10 o10
            have C10 := Lib.hid (C6.out.append N6.out r10 (by rw [hM.out.2]) g10 o10)
            have T10 := Lib.hid (T6.out.grown g10 T6.out.size (fun b e => (World.ownsRow.lt C6.out.row b e).1))
            have HRN : (some r : Option Nat) ≠ (Value.slice A n c).ownBlock := fun e => by have h1 := (World.ownsRow.lt C6.out.row r e.symm).1; have h2 := Rc.lt HR.out; omega
            have CX10 : w10.cell? ⟨r, 512 + 256 + k, none⟩ = some (.bool true) ∧ w10.cell? ⟨r, 512 + k, none⟩ = some (.string ⟨eb.toArray⟩) := ⟨g10.cell CX6.1 HRN, g10.cell CX6.2 HRN⟩
            refine hK _ _ CX10 (fun _ => ?_)
            clear hK K r10 g10 o10
            refine wpAnyH_take (i := 21) (v := .slice A10 (n + 1) c10) rfl (by kernel_rfl) (by kernel_rfl) (by kernel_rfl) (fun _ _ _ h => h) (Or.inl ⟨by kernel_rfl, fun w _ => by go_simp⟩) CX10 ?_
            simp only [Act.put, List.getElem_toArray, List.getElem_cons_zero, List.getElem_cons_succ, List.setIfInBounds_toArray, List.set_cons_zero, List.set_cons_succ]
            refine wpAnyH_done (by kernel_rfl) ?_ _
            go_simp
            go_wp2_with fail
            exact ⟨⟨k + 1, n + 1, _, _, cs ++ [⟨(k : Int), false, some ⟨g5, 0, none⟩, eb.length, c5⟩], by omega, by omega, rfl, by go_num, Lib.hid (by rw [HN1.out, List.map_append, List.map_cons, List.map_nil, HB0.out]; exact C10.out), Lib.hid ⟨by rw [HN1.out, List.map_append, List.map_append, hM.out.1, List.map_cons, List.map_nil, List.map_cons, List.map_nil]; rfl, by rw [List.length_append, hM.out.2]; rfl⟩, T10⟩, by simp [intOf]; omega⟩
          | true =>
            obtain rfl : tb = true := by have := HCN.out; simpa using this
            go_upto_region 6 with (fail)
            have hcv : ∃ c5 X5, (convert 9 44 (.string ⟨eb.toArray⟩)).run Try.prog wr.drew = .ok (.slice (some ⟨wr.drew.heap.size, 0, none⟩) eb.length c5) X5 ∧ Below wr.drew.heap.size wr.drew X5 ∧ BytesS X5 (fun b => wr.drew.heap.size ≤ b ∧ b < X5.heap.size) (.slice (some ⟨wr.drew.heap.size, 0, none⟩) eb.length c5) eb := by
              obtain ⟨c5, X5, h1, h2, h3⟩ := conv_any ⟨eb.toArray⟩ (by rw [Lib.size_eq]; have := HEB.out; simp; omega) wr.drew
              exact ⟨c5, X5, h1, h2, h3⟩
            obtain ⟨c5, X5, hrun, hx5, hbs5⟩ := hcv
            have X5B := Lib.hid hx5
            have X5S := Lib.hid hbs5
            have C5 := Lib.hid (ChOwn.below (w := wr.drew) (w' := X5) ⟨hO.out.row, hO.out.len, hO.out.bods⟩ hx5)
            have T5 := Lib.hid (hb.out.drew.trans (hx5.mono hb.out.size))
            have HBS := Lib.hid hb.out.size
            have HOB : Hid (∀ b, (Value.slice A n c).ownBlock = some b → b < wr.heap.size) := Lib.hid (fun b e => (World.ownsRow.lt hO.out.row b e).2)
            have CW : wr.drew.cell? ⟨r, 512 + 256 + k, none⟩ = some (.bool false) ∧ wr.drew.cell? ⟨r, 512 + k, none⟩ = some (.string ⟨eb.toArray⟩) := ⟨c2, c4⟩
            have CX : X5.cell? ⟨r, 512 + 256 + k, none⟩ = some (.bool false) ∧ X5.cell? ⟨r, 512 + k, none⟩ = some (.string ⟨eb.toArray⟩) := ⟨(hx5.cell (p := ⟨r, 512 + 256 + k, none⟩) (Nat.lt_of_lt_of_le (Rc.lt HR.out) hb.out.size)).trans c2, (hx5.cell (p := ⟨r, 512 + k, none⟩) (Nat.lt_of_lt_of_le (Rc.lt HR.out) hb.out.size)).trans c4⟩
            have HRL : Hid (r < X5.heap.size) := Lib.hid (Nat.lt_of_lt_of_le (Nat.lt_of_lt_of_le (Rc.lt HR.out) hb.out.size) hx5.size)
            clear hx5 hbs5 c1 c2 c3 c4 hO hb
            go_wp2_with fail
            refine wp_region_held_drew (S := (fun w2 => w2.cell? ⟨r, 512 + 256 + k, none⟩ = some (.bool false) ∧ w2.cell? ⟨r, 512 + k, none⟩ = some (.string ⟨eb.toArray⟩))) (by kernel_rfl) CW (fun _ => ?_)
            refine wpAnyH_take (i := 0) (v := .slice A n c) rfl (by kernel_rfl) (by kernel_rfl) (by kernel_rfl) (fun _ _ _ h => h) (Or.inl ⟨by kernel_rfl, fun w _ => by go_simp⟩) CW ?_
            simp only [Act.put, List.getElem_toArray, List.getElem_cons_zero, List.setIfInBounds_toArray, List.set_cons_zero, List.set_cons_succ]
            refine wpAnyH_take (i := 1) (v := .int .i64 (k : Int)) rfl (by kernel_rfl) (by kernel_rfl) (by kernel_rfl) (fun _ _ _ h => h) (Or.inl ⟨by kernel_rfl, fun w _ => by go_simp⟩) CW ?_
            simp only [Act.put, List.getElem_toArray, List.getElem_cons_zero, List.getElem_cons_succ, List.setIfInBounds_toArray, List.set_cons_zero, List.set_cons_succ]
            refine wpAnyH_take (i := 2) (v := .pointer (some ⟨r, 0, none⟩)) rfl (by kernel_rfl) (by kernel_rfl) (by kernel_rfl) (fun _ _ _ h => h) (Or.inl ⟨by kernel_rfl, fun w _ => by go_simp⟩) CW ?_
            simp only [Act.put, List.getElem_toArray, List.getElem_cons_zero, List.getElem_cons_succ, List.setIfInBounds_toArray, List.set_cons_zero, List.set_cons_succ]
            refine wpAnyH_take (i := 3) (v := .int .i64 (k : Int)) rfl (by kernel_rfl) (by kernel_rfl) (by kernel_rfl) (fun _ _ _ h => h) (Or.inl ⟨by kernel_rfl, fun w _ => by go_simp⟩) CW ?_
            simp only [Act.put, List.getElem_toArray, List.getElem_cons_zero, List.getElem_cons_succ, List.setIfInBounds_toArray, List.set_cons_zero, List.set_cons_succ]
            refine wpAnyH_take (i := 4) (v := .pointer (some ⟨r, 0, none⟩)) rfl (by kernel_rfl) (by kernel_rfl) (by kernel_rfl) (fun _ _ _ h => h) (Or.inl ⟨by kernel_rfl, fun w _ => by go_simp⟩) CW ?_
            simp only [Act.put, List.getElem_toArray, List.getElem_cons_zero, List.getElem_cons_succ, List.setIfInBounds_toArray, List.set_cons_zero, List.set_cons_succ]
            refine wpAnyH_take (i := 5) (v := .pointer (some ⟨r, 512, none⟩)) rfl (by kernel_rfl) (by kernel_rfl) (by kernel_rfl) (fun _ _ _ h => h) (Or.inl ⟨by kernel_rfl, fun w _ => by go_simp⟩) CW ?_
            simp only [Act.put, List.getElem_toArray, List.getElem_cons_zero, List.getElem_cons_succ, List.setIfInBounds_toArray, List.set_cons_zero, List.set_cons_succ]
            refine wpAnyH_take (i := 6) (v := .pointer (some ⟨r, 512 + 256, none⟩)) rfl (by kernel_rfl) (by kernel_rfl) (by kernel_rfl) (fun _ _ _ h => h) (Or.inl ⟨by kernel_rfl, fun w _ => by go_simp⟩) CW ?_
            simp only [Act.put, List.getElem_toArray, List.getElem_cons_zero, List.getElem_cons_succ, List.setIfInBounds_toArray, List.set_cons_zero, List.set_cons_succ]
            refine wpAnyH_take (i := 7) (v := .pointer (some ⟨r, 512 + 256 + k, none⟩)) rfl (by kernel_rfl) (by kernel_rfl) (by kernel_rfl) (fun _ _ _ h => h) (Or.inl ⟨by kernel_rfl, fun w _ => by go_simp⟩) CW ?_
            simp only [Act.put, List.getElem_toArray, List.getElem_cons_zero, List.getElem_cons_succ, List.setIfInBounds_toArray, List.set_cons_zero, List.set_cons_succ]
            refine wpAnyH_take (i := 8) (v := .bool false) rfl (by kernel_rfl) (by kernel_rfl) (by kernel_rfl) (fun _ _ _ h => h) (yields_one (ty := 4) (fun w => by kernel_rfl) (.tmp 41) (by kernel_rfl) (by kernel_rfl) (by kernel_rfl) (fun w2 h => h.1)) CW ?_
            simp only [Act.put, List.getElem_toArray, List.getElem_cons_zero, List.getElem_cons_succ, List.setIfInBounds_toArray, List.set_cons_zero, List.set_cons_succ]
            refine wpAnyH_take (i := 9) (v := .bool true) rfl (by kernel_rfl) (by kernel_rfl) (by kernel_rfl) (fun _ _ _ h => h) (Or.inl ⟨by kernel_rfl, fun w _ => by go_simp⟩) CW ?_
            simp only [Act.put, List.getElem_toArray, List.getElem_cons_zero, List.getElem_cons_succ, List.setIfInBounds_toArray, List.set_cons_zero, List.set_cons_succ]
            refine wpAnyH_take (i := 10) (v := .pointer (some ⟨r, 0, none⟩)) rfl (by kernel_rfl) (by kernel_rfl) (by kernel_rfl) (fun _ _ _ h => h) (Or.inl ⟨by kernel_rfl, fun w _ => by go_simp⟩) CW ?_
            simp only [Act.put, List.getElem_toArray, List.getElem_cons_zero, List.getElem_cons_succ, List.setIfInBounds_toArray, List.set_cons_zero, List.set_cons_succ]
            refine wpAnyH_take (i := 11) (v := .int .i64 (k : Int)) rfl (by kernel_rfl) (by kernel_rfl) (by kernel_rfl) (fun _ _ _ h => h) (Or.inl ⟨by kernel_rfl, fun w _ => by go_simp⟩) CW ?_
            simp only [Act.put, List.getElem_toArray, List.getElem_cons_zero, List.getElem_cons_succ, List.setIfInBounds_toArray, List.set_cons_zero, List.set_cons_succ]
            refine wpAnyH_take (i := 12) (v := .pointer (some ⟨r, 0, none⟩)) rfl (by kernel_rfl) (by kernel_rfl) (by kernel_rfl) (fun _ _ _ h => h) (Or.inl ⟨by kernel_rfl, fun w _ => by go_simp⟩) CW ?_
            simp only [Act.put, List.getElem_toArray, List.getElem_cons_zero, List.getElem_cons_succ, List.setIfInBounds_toArray, List.set_cons_zero, List.set_cons_succ]
            refine wpAnyH_take (i := 13) (v := .pointer (some ⟨r, 512, none⟩)) rfl (by kernel_rfl) (by kernel_rfl) (by kernel_rfl) (fun _ _ _ h => h) (Or.inl ⟨by kernel_rfl, fun w _ => by go_simp⟩) CW ?_
            simp only [Act.put, List.getElem_toArray, List.getElem_cons_zero, List.getElem_cons_succ, List.setIfInBounds_toArray, List.set_cons_zero, List.set_cons_succ]
            refine wpAnyH_take (i := 14) (v := .pointer (some ⟨r, 512, none⟩)) rfl (by kernel_rfl) (by kernel_rfl) (by kernel_rfl) (fun _ _ _ h => h) (Or.inl ⟨by kernel_rfl, fun w _ => by go_simp⟩) CW ?_
            simp only [Act.put, List.getElem_toArray, List.getElem_cons_zero, List.getElem_cons_succ, List.setIfInBounds_toArray, List.set_cons_zero, List.set_cons_succ]
            refine wpAnyH_take (i := 15) (v := .pointer (some ⟨r, 512 + k, none⟩)) rfl (by kernel_rfl) (by kernel_rfl) (by kernel_rfl) (fun _ _ _ h => h) (Or.inl ⟨by kernel_rfl, fun w _ => by go_simp⟩) CW ?_
            simp only [Act.put, List.getElem_toArray, List.getElem_cons_zero, List.getElem_cons_succ, List.setIfInBounds_toArray, List.set_cons_zero, List.set_cons_succ]
            refine wpAnyH_take (i := 16) (v := .string ⟨eb.toArray⟩) rfl (by kernel_rfl) (by kernel_rfl) (by kernel_rfl) (fun _ _ _ h => h) (yields_one (ty := 9) (fun w => by kernel_rfl) (.tmp 49) (by kernel_rfl) (by kernel_rfl) (by kernel_rfl) (fun w2 h => h.2)) CW ?_
            simp only [Act.put, List.getElem_toArray, List.getElem_cons_zero, List.getElem_cons_succ, List.setIfInBounds_toArray, List.set_cons_zero, List.set_cons_succ]
            refine wpAnyH_ready (rs := [17]) (by kernel_rfl) (by simp) (AllReadyH.cons rfl (fun K hK => ?_) AllReadyH.nil)
            go_simp
            refine hK _ _ CX (fun _ => ?_)
            clear hK K
            obtain ⟨g5, hg5⟩ : ∃ g5, g5 = wr.drew.heap.size := ⟨_, rfl⟩
            have HG5 : Hid (w.heap.size ≤ g5 ∧ g5 = wr.heap.size) := Lib.hid ⟨by rw [hg5]; exact HBS.out, hg5⟩
            rw [show wr.heap.size = g5 from hg5.symm]
            rw [← hg5] at X5S X5B
            clear hg5 hrun
            refine wpAnyH_take (i := 18) (v := .agg #[.int .i64 (k : Int), .bool true, .slice (some ⟨g5, 0, none⟩) eb.length c5]) rfl (by kernel_rfl) (by kernel_rfl) (by kernel_rfl) (fun _ _ _ h => h) (Or.inl ⟨by kernel_rfl, fun w _ => by go_simp⟩) CX ?_
            simp only [Act.put, List.getElem_toArray, List.getElem_cons_zero, List.getElem_cons_succ, List.setIfInBounds_toArray, List.set_cons_zero, List.set_cons_succ]
            refine wpAnyH_ready (rs := [19]) (by kernel_rfl) (by simp) (AllReadyH.cons rfl (fun K hK => ?_) AllReadyH.nil)
            go_simp
            have B6 := Lib.hid ((Below.refl X5.heap.size X5).alloc (Nat.le_refl _) (.cells #[.int .i64 (k : Int), .bool true, .slice (some ⟨g5, 0, none⟩) eb.length c5] 46))
            have R6 := Lib.hid (row_one X5 ⟨(k : Int), true, some ⟨g5, 0, none⟩, eb.length, c5⟩ (X5.heap.size + 1) (Nat.lt_succ_self _))
            have C6 := Lib.hid (C5.out.below B6.out)
            have N6 : Hid (BytesS (X5.alloc (.cells #[.int .i64 (k : Int), .bool true, .slice (some ⟨g5, 0, none⟩) eb.length c5] 46)) (fun b => w.heap.size ≤ b ∧ b < (X5.alloc (.cells #[.int .i64 (k : Int), .bool true, .slice (some ⟨g5, 0, none⟩) eb.length c5] 46)).heap.size ∧ (Value.slice A n c).ownBlock ≠ some b) (.slice (some ⟨g5, 0, none⟩) eb.length c5) eb) := Lib.hid (((X5S.out.grown (only_of_below B6.out none) (by simp)).more (fun b h => ⟨by have := HG5.out; omega, Nat.lt_of_lt_of_le h.2 B6.out.size, fun e => by have h2 : b < wr.heap.size := HOB.out b e; have := HG5.out; omega⟩)))
            have T6 := Lib.hid (T5.out.trans (B6.out.mono T5.out.size))
            have HG6 : Hid (w.heap.size ≤ (X5.alloc (.cells #[.int .i64 (k : Int), .bool true, .slice (some ⟨g5, 0, none⟩) eb.length c5] 46)).heap.size) := Lib.hid T6.out.size
            have HW6 := Lib.hid (C6.out.row)
            rw [hM.out.2] at HW6
            have CX6 : (X5.alloc (.cells #[.int .i64 (k : Int), .bool true, .slice (some ⟨g5, 0, none⟩) eb.length c5] 46)).cell? ⟨r, 512 + 256 + k, none⟩ = some (.bool false) ∧ (X5.alloc (.cells #[.int .i64 (k : Int), .bool true, .slice (some ⟨g5, 0, none⟩) eb.length c5] 46)).cell? ⟨r, 512 + k, none⟩ = some (.string ⟨eb.toArray⟩) := ⟨(B6.out.cell (p := ⟨r, 512 + 256 + k, none⟩) HRL.out).trans CX.1, (B6.out.cell (p := ⟨r, 512 + k, none⟩) HRL.out).trans CX.2⟩
            refine hK _ _ CX6 (fun _ => ?_)
            clear hK K
            refine wpAnyH_ready (rs := [20]) (by kernel_rfl) (by simp) (AllReadyH.cons rfl (fun K hK => ?_) AllReadyH.nil)
            refine step_app_row rowC (by decide) (by kernel_rfl) (.tmp 34) (.tmp 53) (by kernel_rfl) (by kernel_rfl) HW6.out ⟨X5.heap.size, 0, none⟩ 1 1 (crow ⟨(k : Int), true, some ⟨g5, 0, none⟩, eb.length, c5⟩) rfl (by decide) (by kernel_rfl) (X5.heap.size + 1) R6.out (crow_one _) (by omega) (by decide) HG6.out (n + 1) rfl ?_
            intro A10 c10 w10 r10 g10 o10
            have C10 := Lib.hid (C6.out.append N6.out r10 (by rw [hM.out.2]) g10 o10)
            have T10 := Lib.hid (T6.out.grown g10 T6.out.size (fun b e => (World.ownsRow.lt C6.out.row b e).1))
            have HRN : (some r : Option Nat) ≠ (Value.slice A n c).ownBlock := fun e => by have h1 := (World.ownsRow.lt C6.out.row r e.symm).1; have h2 := Rc.lt HR.out; omega
            have CX10 : w10.cell? ⟨r, 512 + 256 + k, none⟩ = some (.bool false) ∧ w10.cell? ⟨r, 512 + k, none⟩ = some (.string ⟨eb.toArray⟩) := ⟨g10.cell CX6.1 HRN, g10.cell CX6.2 HRN⟩
            refine hK _ _ CX10 (fun _ => ?_)
            clear hK K r10 g10 o10
            refine wpAnyH_take (i := 21) (v := .slice A10 (n + 1) c10) rfl (by kernel_rfl) (by kernel_rfl) (by kernel_rfl) (fun _ _ _ h => h) (Or.inl ⟨by kernel_rfl, fun w _ => by go_simp⟩) CX10 ?_
            simp only [Act.put, List.getElem_toArray, List.getElem_cons_zero, List.getElem_cons_succ, List.setIfInBounds_toArray, List.set_cons_zero, List.set_cons_succ]
            refine wpAnyH_done (by kernel_rfl) ?_ _
            go_simp
            go_wp2_with fail
            exact ⟨⟨k + 1, n + 1, _, _, cs ++ [⟨(k : Int), true, some ⟨g5, 0, none⟩, eb.length, c5⟩], by omega, by omega, rfl, by go_num, Lib.hid (by rw [HN1.out, List.map_append, List.map_cons, List.map_nil, HB0.out]; exact C10.out), Lib.hid ⟨by rw [HN1.out, List.map_append, List.map_append, hM.out.1, List.map_cons, List.map_nil, List.map_cons, List.map_nil]; rfl, by rw [List.length_append, hM.out.2]; rfl⟩, T10⟩, by simp [intOf]; omega⟩
        · have HN1 : Hid (chgTo th P (k + 1) = chgTo th P k) := Lib.hid (chgTo_no (fun e2 h2 => by
            rw [HE.out] at h2
            cases h2
            rw [← HTB.out]
            simpa using hcount))
          obtain rfl : eg = true := by cases eg; exact absurd rfl hcount; rfl
          obtain rfl : tb = false := by cases tb; rfl; exact absurd rfl hcount
          clear hcount c4
          go_wp2_with fail
          exact ⟨⟨k + 1, n, A, c, cs, by omega, by omega, rfl, by go_num, Lib.hid (by rw [HN1.out]; exact hO.out), Lib.hid (by rw [HN1.out]; exact hM.out), hb⟩, by simp [intOf]; omega⟩
    · obtain rfl : k = 256 := by omega
      go_wp2_with fail
      go_ret
      exact ⟨_, cs, rfl, hO.out, hM.out.1, hb.out⟩
end Go.Proofs.Ytppodbijdhcclaa


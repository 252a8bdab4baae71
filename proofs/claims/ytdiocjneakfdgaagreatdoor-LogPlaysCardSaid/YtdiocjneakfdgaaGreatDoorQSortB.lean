/- Several texts of the proof, joined: what each has is said at its head. -/
import Derived.Test.YtdiocjneakfdgaaGreatDoorQSortA
/- A sort's merge of one place with a row on its right. Condition: no two keys are alike. -/
namespace Go.Proofs.YtdiocjneakfdgaaGreatDoor
open Go.RowKit
def symPost (g : Nat) (key : Nat → Nat) (L : List Nat) (ex : List Value) (w : World) (a b : Nat) (e : Ending) (w' : World) : Prop := e = .returned (.tuple #[]) ∧ ∃ M, IR w' g M ex ∧ Chg w w' (fun j => j = g) ∧ Mg L M a b ∧ Srt key M a b
set_option maxRecDepth 100000 in
set_option maxHeartbeats 8000000 in
theorem sym_one (g c a b N q n0 : Nat) (key : Nat → Nat) (L : List Nat) (ex : List Value) (w : World) (h : IR w g L ex) (hab : a + 1 < b) (hbN : b ≤ N) (hN : L.length = N) (hl : N ≤ 1000) (hk : NK key L) (hlt : LtN L n0) (KC : KCmp q key n0 g w) (hs : Srt key L (a + 1) b) :
    Calls Tryz.prog 98 #[.slice (some ⟨g, 0, none⟩) N c, .int .i64 (a : Int), .int .i64 ((a + 1 : Nat) : Int), .int .i64 (b : Int), .func (.func 47) #[] #[.pointer (some ⟨q, 0, none⟩)]] w (symPost g key L ex w a b) := by
  have HI := Lib.hid h
  have HL := Lib.hid hN
  have HK := Lib.hid hk
  have HT := Lib.hid hlt
  have HC := Lib.hid KC
  have HS := Lib.hid hs
  obtain ⟨m, hm⟩ : ∃ m, a + 1 = m := ⟨_, rfl⟩
  rw [hm] at hab HS ⊢
  have d0 : ((m : Int) - (a : Int) == 1) = true := by simp; omega
  clear h hN hk hlt KC hs
  go_enter Tryz.func98, Tryz.ntmps98
  go_wp2
  clear d0
  go_loopw [10, 11, 12] (fun vi vj _ wr => ∃ i j : Nat, vi = .int .i64 (i : Int) ∧ vj = .int .i64 (j : Int) ∧ m ≤ i ∧ i ≤ j ∧ j ≤ b ∧ Hid (IR wr g L ex ∧ Chg w wr (fun j => j = g) ∧ (∀ x, m ≤ x → x < i → key (L.getD x 0) < key (L.getD a 0)) ∧ ∀ x, j ≤ x → x < b → key (L.getD a 0) < key (L.getD x 0))) (fun vi vj _ _ => (intOf vj).toNat - (intOf vi).toNat)
  case atStart => exact ⟨m, b, rfl, rfl, Nat.le_refl _, by omega, Nat.le_refl _, Lib.hid ⟨HI.out, Chg.refl _ _, fun x p1 p2 => by omega, fun x p1 p2 => by omega⟩⟩
  case round =>
    obtain ⟨W0, hW0⟩ : ∃ W0, W0 = wr := ⟨_, rfl⟩
    subst hW0
    obtain ⟨i, j, rfl, rfl, hmi, hij, hjb, HM⟩ := hrel
    obtain ⟨hM, hC, hlo, hhi⟩ := HM.out
    have HM2 := Lib.hid hM
    have HC2 := Lib.hid hC
    have HLo := Lib.hid hlo
    have HHi := Lib.hid hhi
    clear HM hM hC hlo hhi
    by_cases hlt : i < j
    · obtain ⟨x, hx⟩ : ∃ x, (i + j) / 2 = x := ⟨_, rfl⟩
      have hx1 : i ≤ x ∧ x < j := by omega
      have cx := HM2.out.cell (x := x) (by rw [HL.out]; omega)
      have cy := HM2.out.cell (x := a) (by rw [HL.out]; omega)
      have KQ := fun k => ((HC.out.chg HC2.out).quiet (HT.out.at (i := x) (by rw [HL.out]; omega)) (HT.out.at (i := a) (by rw [HL.out]; omega)) k)
      have e1 : ((i : Int) + (j : Int)) / 2 = (x : Int) := by omega
      obtain ⟨vx, hvx⟩ : ∃ vx, L.getD x 0 = vx := ⟨_, rfl⟩
      obtain ⟨va, hva⟩ : ∃ va, L.getD a 0 = va := ⟨_, rfl⟩
      simp only [hvx, hva] at cx cy KQ
      have HVX := Lib.hid hvx
      have HVA := Lib.hid hva
      have HX := Lib.hid hx
      clear hvx hva hx
      obtain ⟨cc, hcc⟩ : ∃ cc, cmp3 (key vx : Int) (key va : Int) = cc := ⟨_, rfl⟩
      rw [hcc] at KQ
      have HCMP := Lib.hid (cmpn_lt (key vx) (key va))
      rw [hcc] at HCMP
      clear hcc
      by_cases hneg : cc < 0
      · have HKL := Lib.hid (HCMP.out.1 hneg)
        go_wp2
        go_quiet ((go_at_call 47; exact KQ _))
        go_wp2
        go_roundw
        case rel =>
          refine ⟨x + 1, j, by congr 1, rfl, by omega, by omega, hjb, Lib.hid ⟨HM2.out, HC2.out.drewN _, fun y p1 p2 => ?_, HHi.out⟩⟩
          by_cases e : y = x
          · rw [e, HVX.out, HVA.out]; exact HKL.out
          · have q1 := HS.out y x p1 (by omega) (by omega)
            have q2 := HKL.out
            rw [← HVX.out, ← HVA.out] at q2
            omega
        case measure => simp [intOf]; omega
      · have HKL := Lib.hid (HK.out.lt (i := x) (j := a) (by rw [HL.out]; omega) (by rw [HL.out]; omega) (by omega) (by rw [HVX.out, HVA.out]; exact fun q => hneg (HCMP.out.2 q)))
        go_wp2
        go_quiet ((go_at_call 47; exact KQ _))
        go_wp2
        go_roundw
        case rel =>
          refine ⟨i, x, rfl, rfl, hmi, by omega, by omega, Lib.hid ⟨HM2.out, HC2.out.drewN _, HLo.out, fun y p1 p2 => ?_⟩⟩
          by_cases e : y = x
          · rw [e]; exact HKL.out
          · have q1 := HS.out x y (by omega) (by omega) (by omega)
            have q2 := HKL.out
            omega
        case measure => simp [intOf]; omega
    · obtain rfl : i = j := by omega
      go_wp2
      go_loopw [13] (fun vk wr => ∃ k : Nat, vk = .int .i64 (k : Int) ∧ a ≤ k ∧ k + 1 ≤ i ∧ Hid (∃ M, IR wr g M ex ∧ Chg w wr (fun j => j = g) ∧ InsL L M a k ∧ Mg L M a b)) (fun vk _ => i - (intOf vk).toNat)
      case atStart => exact ⟨a, rfl, Nat.le_refl _, by omega, Lib.hid ⟨L, HM2.out, HC2.out, InsL.start L a, Mg.refl _ _ _⟩⟩
      case round =>
        obtain ⟨k, rfl, hak, hki, HM⟩ := hrel
        obtain ⟨M, hM, hC, hR, hG⟩ := HM.out
        have XI := Lib.hid hM
        have XC := Lib.hid hC
        have XR := Lib.hid hR
        have XG := Lib.hid hG
        have XLen := Lib.hid (show M.length = N by rw [hG.length]; exact HL.out)
        clear HM hM hC hR hG
        by_cases hlt2 : k + 1 < i
        · have cx := XI.out.cell (x := k) (by rw [XLen.out]; omega)
          have cy := XI.out.cell (x := k + 1) (by rw [XLen.out]; omega)
          have fx := XI.out.free k
          have fy := XI.out.free (k + 1)
          have HN := Lib.hid (XI.out.sw (i := k) (j := k + 1) (by rw [XLen.out]; omega) (by rw [XLen.out]; omega))
          have HCC := Lib.hid ((XC.out.setg k (.int .i64 ((M.getD (k + 1) 0 : Nat) : Int))).setg (k + 1) (.int .i64 ((M.getD k 0 : Nat) : Int)))
          obtain ⟨y, hy⟩ : ∃ y, k + 1 = y := ⟨_, rfl⟩
          simp only [hy] at cy fy HN HCC
          have HY := Lib.hid hy
          have e1 : (k : Int) + 1 = (y : Int) := by omega
          have hyi : y < i := by omega
          have hyk : k < y := by omega
          have d1 : (k : Int) < (i : Int) - 1 := by omega
          obtain ⟨vx, hvx⟩ : ∃ vx, M.getD k 0 = vx := ⟨_, rfl⟩
          obtain ⟨vy, hvy⟩ : ∃ vy, M.getD y 0 = vy := ⟨_, rfl⟩
          simp only [hvx, hvy] at cx cy HN HCC
          clear hy hvx hvy
          go_wp2
          go_region
          all_goals go_wp2
          go_roundw
          case rel =>
            refine ⟨y, rfl, by omega, by omega, Lib.hid ⟨_, HN.out, HCC.out.drewg, ?_, ?_⟩⟩
            · have e := HY.out
              subst e
              exact XR.out.step hak (by rw [XLen.out]; omega)
            · exact XG.out.trans (Mg.swap ⟨by omega, by omega⟩ ⟨by omega, by omega⟩ (by rw [XLen.out]; omega))
          case measure => simp [intOf]; omega
        · obtain rfl : k = i - 1 := by omega
          have d1 : ¬ (((i - 1 : Nat) : Int) < (i : Int) - 1) := by omega
          go_wp2
          go_end0
          refine ⟨rfl, M, XI.out, XC.out, XG.out, ?_⟩
          refine XR.out.done (by omega) hjb (by rw [hm]; exact HS.out) (fun c p1 p2 => HLo.out c (by omega) p2) HHi.out
end Go.Proofs.YtdiocjneakfdgaaGreatDoor

/- A sort's merge of a row with one place on its right. Condition: no two keys are alike. -/
namespace Go.Proofs.YtdiocjneakfdgaaGreatDoor
open Go.RowKit
set_option maxRecDepth 100000 in
set_option maxHeartbeats 8000000 in
theorem sym_two (g c a m N q n0 : Nat) (key : Nat → Nat) (L : List Nat) (ex : List Value) (w : World) (h : IR w g L ex) (ham : a + 1 < m) (hbN : m + 1 ≤ N) (hN : L.length = N) (hl : N ≤ 1000) (hk : NK key L) (hlt : LtN L n0) (KC : KCmp q key n0 g w) (hs : Srt key L a m) :
    Calls Tryz.prog 98 #[.slice (some ⟨g, 0, none⟩) N c, .int .i64 (a : Int), .int .i64 (m : Int), .int .i64 ((m + 1 : Nat) : Int), .func (.func 47) #[] #[.pointer (some ⟨q, 0, none⟩)]] w (symPost g key L ex w a (m + 1)) := by
  have HI := Lib.hid h
  have HL := Lib.hid hN
  have HK := Lib.hid hk
  have HT := Lib.hid hlt
  have HC := Lib.hid KC
  have HS := Lib.hid hs
  obtain ⟨b, hm⟩ : ∃ b, m + 1 = b := ⟨_, rfl⟩
  rw [hm] at hbN ⊢
  have d0 : ((m : Int) - (a : Int) == 1) = false := by rw [beq_eq_false_iff_ne]; omega
  have d1 : ((b : Int) - (m : Int) == 1) = true := by simp; omega
  clear h hN hk hlt KC hs
  go_enter Tryz.func98, Tryz.ntmps98
  go_wp2
  clear d0 d1
  go_loopw [14, 15, 16] (fun vi vj _ wr => ∃ i j : Nat, vi = .int .i64 (i : Int) ∧ vj = .int .i64 (j : Int) ∧ a ≤ i ∧ i ≤ j ∧ j ≤ m ∧ Hid (IR wr g L ex ∧ Chg w wr (fun j => j = g) ∧ (∀ x, a ≤ x → x < i → key (L.getD x 0) < key (L.getD m 0)) ∧ ∀ x, j ≤ x → x < m → key (L.getD m 0) < key (L.getD x 0))) (fun vi vj _ _ => (intOf vj).toNat - (intOf vi).toNat)
  case atStart => exact ⟨a, m, rfl, rfl, Nat.le_refl _, by omega, Nat.le_refl _, Lib.hid ⟨HI.out, Chg.refl _ _, fun x p1 p2 => by omega, fun x p1 p2 => by omega⟩⟩
  case round =>
    obtain ⟨W0, hW0⟩ : ∃ W0, W0 = wr := ⟨_, rfl⟩
    subst hW0
    obtain ⟨i, j, rfl, rfl, hmi, hij, hjb, HM⟩ := hrel
    obtain ⟨hM, hC, hlo, hhi⟩ := HM.out
    have HM2 := Lib.hid hM
    have HC2 := Lib.hid hC
    have HLo := Lib.hid hlo
    have HHi := Lib.hid hhi
    clear HM hM hC hlo hhi
    by_cases hlt : i < j
    · obtain ⟨x, hx⟩ : ∃ x, (i + j) / 2 = x := ⟨_, rfl⟩
      have hx1 : i ≤ x ∧ x < j := by omega
      have cx := HM2.out.cell (x := x) (by rw [HL.out]; omega)
      have cy := HM2.out.cell (x := m) (by rw [HL.out]; omega)
      have KQ := fun k => ((HC.out.chg HC2.out).quiet (HT.out.at (i := m) (by rw [HL.out]; omega)) (HT.out.at (i := x) (by rw [HL.out]; omega)) k)
      have e1 : ((i : Int) + (j : Int)) / 2 = (x : Int) := by omega
      obtain ⟨vx, hvx⟩ : ∃ vx, L.getD x 0 = vx := ⟨_, rfl⟩
      obtain ⟨va, hva⟩ : ∃ va, L.getD m 0 = va := ⟨_, rfl⟩
      simp only [hvx, hva] at cx cy KQ
      have HVX := Lib.hid hvx
      have HVA := Lib.hid hva
      have HX := Lib.hid hx
      clear hvx hva hx
      obtain ⟨cc, hcc⟩ : ∃ cc, cmp3 (key va : Int) (key vx : Int) = cc := ⟨_, rfl⟩
      rw [hcc] at KQ
      have HCMP := Lib.hid (cmpn_lt (key va) (key vx))
      rw [hcc] at HCMP
      clear hcc
      by_cases hneg : cc < 0
      · have HKL := Lib.hid (HCMP.out.1 hneg)
        have dd : (!decide (cc < 0)) = false := by simp [hneg]
        go_wp2
        go_quiet ((go_at_call 47; exact KQ _))
        go_wp2
        go_roundw
        case rel =>
          refine ⟨i, x, rfl, rfl, hmi, by omega, by omega, Lib.hid ⟨HM2.out, HC2.out.drewN _, HLo.out, fun y p1 p2 => ?_⟩⟩
          by_cases e : y = x
          · rw [e, HVX.out, HVA.out]; exact HKL.out
          · have q1 := HS.out x y (by omega) (by omega) (by omega)
            have q2 := HKL.out
            rw [← HVX.out, ← HVA.out] at q2
            omega
        case measure => simp [intOf]; omega
      · have HKL := Lib.hid (HK.out.lt (i := m) (j := x) (by rw [HL.out]; omega) (by rw [HL.out]; omega) (by omega) (by rw [HVX.out, HVA.out]; exact fun q => hneg (HCMP.out.2 q)))
        have dd : (!decide (cc < 0)) = true := by simp [hneg]
        go_wp2
        go_quiet ((go_at_call 47; exact KQ _))
        go_wp2
        go_roundw
        case rel =>
          refine ⟨x + 1, j, by congr 1, rfl, by omega, by omega, hjb, Lib.hid ⟨HM2.out, HC2.out.drewN _, fun y p1 p2 => ?_, HHi.out⟩⟩
          by_cases e : y = x
          · rw [e]; exact HKL.out
          · have q1 := HS.out y x p1 (by omega) (by omega)
            have q2 := HKL.out
            omega
        case measure => simp [intOf]; omega
    · obtain rfl : i = j := by omega
      go_wp2
      go_loopw [17] (fun vk wr => ∃ k : Nat, vk = .int .i64 (k : Int) ∧ i ≤ k ∧ k ≤ m ∧ Hid (∃ M, IR wr g M ex ∧ Chg w wr (fun j => j = g) ∧ InsR L M m k ∧ Mg L M a b)) (fun vk _ => (intOf vk).toNat)
      case atStart => exact ⟨m, rfl, by omega, Nat.le_refl _, Lib.hid ⟨L, HM2.out, HC2.out, InsR.start L m, Mg.refl _ _ _⟩⟩
      case round =>
        obtain ⟨k, rfl, hak, hki, HM⟩ := hrel
        obtain ⟨M, hM, hC, hR, hG⟩ := HM.out
        have XI := Lib.hid hM
        have XC := Lib.hid hC
        have XR := Lib.hid hR
        have XG := Lib.hid hG
        have XLen := Lib.hid (show M.length = N by rw [hG.length]; exact HL.out)
        clear HM hM hC hR hG
        by_cases hlt2 : i < k
        · have cx := XI.out.cell (x := k) (by rw [XLen.out]; omega)
          have cy := XI.out.cell (x := k - 1) (by rw [XLen.out]; omega)
          have fx := XI.out.free k
          have fy := XI.out.free (k - 1)
          have HN := Lib.hid (XI.out.sw (i := k) (j := k - 1) (by rw [XLen.out]; omega) (by rw [XLen.out]; omega))
          have HCC := Lib.hid ((XC.out.setg k (.int .i64 ((M.getD (k - 1) 0 : Nat) : Int))).setg (k - 1) (.int .i64 ((M.getD k 0 : Nat) : Int)))
          obtain ⟨y, hy⟩ : ∃ y, k - 1 = y := ⟨_, rfl⟩
          simp only [hy] at cy fy HN HCC
          have HY := Lib.hid hy
          have e1 : (k : Int) - 1 = (y : Int) := by omega
          have hyi : i ≤ y := by omega
          have hyk : y < k := by omega
          obtain ⟨vx, hvx⟩ : ∃ vx, M.getD k 0 = vx := ⟨_, rfl⟩
          obtain ⟨vy, hvy⟩ : ∃ vy, M.getD y 0 = vy := ⟨_, rfl⟩
          simp only [hvx, hvy] at cx cy HN HCC
          clear hy hvx hvy
          go_wp2
          go_region
          all_goals go_wp2
          go_roundw
          case rel =>
            refine ⟨y, rfl, by omega, by omega, Lib.hid ⟨_, HN.out, HCC.out.drewg, ?_, ?_⟩⟩
            · have e := HY.out
              obtain rfl : k = y + 1 := by omega
              exact XR.out.step (by omega) (by rw [XLen.out]; omega)
            · exact XG.out.trans (Mg.swap ⟨by omega, by omega⟩ ⟨by omega, by omega⟩ (by rw [XLen.out]; omega))
          case measure => simp [intOf]; omega
        · obtain rfl : k = i := by omega
          go_wp2
          go_end0
          refine ⟨rfl, M, XI.out, XC.out, XG.out, ?_⟩
          have := XR.out.done hmi hki HS.out HLo.out HHi.out
          rwa [hm] at this
end Go.Proofs.YtdiocjneakfdgaaGreatDoor

/- A sort's merge of two rows that lie side by side. Condition: no two keys are alike. -/
namespace Go.Proofs.YtdiocjneakfdgaaGreatDoor
open Go.RowKit
theorem RotI.none {F : Nat → Nat} {L : List Nat} {m i j : Nat} (h : RotI F L m i j) (hij : i = 0 ∨ j = 0) (p : Nat) : L.getD p 0 = F p := by
  rw [h p]
  rcases hij with rfl | rfl
  · by_cases c : m - 0 ≤ p ∧ p < m + j
    · rw [if_pos c, if_pos (by omega)]; rfl
    · rw [if_neg c]
  · by_cases c : m - i ≤ p ∧ p < m + 0
    · rw [if_pos c, if_neg (by omega)]; rfl
    · rw [if_neg c]
/-- behind the rotation: what the two shorter merges begin with -/
structure Mid (key : Nat → Nat) (L M : List Nat) (a b mid s en : Nat) : Prop where
  mg : Mg L M a b
  crs : Crs key M a mid b
  s1 : Srt key M a s
  s2 : Srt key M s mid
  s3 : Srt key M mid en
  s4 : Srt key M en b
theorem Mid.left {key : Nat → Nat} {L M K : List Nat} {a b mid s en : Nat} (h : Mid key L M a b mid s en) (hb : mid ≤ b) (_he : mid ≤ en) (hm : Mg M K a mid) : Mg L K a b ∧ Crs key K a mid b ∧ Srt key K mid en ∧ Srt key K en b :=
  ⟨h.mg.trans (hm.more (Nat.le_refl _) hb), h.crs.left hm, h.s3.out hm (Or.inr (Nat.le_refl _)), h.s4.out hm (Or.inr (by omega))⟩
/-- the left row is in order -/
structure Half (key : Nat → Nat) (L M : List Nat) (a b mid en : Nat) : Prop where
  mg : Mg L M a b
  crs : Crs key M a mid b
  s : Srt key M a mid
  s3 : Srt key M mid en
  s4 : Srt key M en b
theorem Half.done {key : Nat → Nat} {L M K : List Nat} {a b mid en : Nat} (h : Half key L M a b mid en) (ha : a ≤ mid) (hm : Mg M K mid b) (hs : Srt key K mid b) : Mg L K a b ∧ Srt key K a b :=
  ⟨h.mg.trans (hm.more ha (Nat.le_refl _)), (h.s.out hm (Or.inl (Nat.le_refl _))).join hs (h.crs.right hm)⟩
theorem Half.same {key : Nat → Nat} {L M : List Nat} {a b mid en : Nat} (h : Half key L M a b mid en) (hen : en ≤ mid ∨ b ≤ en) (hme : mid ≤ en) (heb : en ≤ b) : Srt key M a b := by
  refine h.s.join ?_ h.crs
  rcases hen with q | q
  · obtain rfl : en = mid := by omega
    exact h.s4
  · obtain rfl : en = b := by omega
    exact h.s3
theorem Mid.half {key : Nat → Nat} {L M : List Nat} {a b mid s en : Nat} (h : Mid key L M a b mid s en) (ha : ¬ (a < s ∧ s < mid)) (h1 : a ≤ s) (h2 : s ≤ mid) : Half key L M a b mid en := ⟨h.mg, h.crs, by
    by_cases ea : a < s
    · obtain rfl : s = mid := by omega
      exact h.s1
    · obtain rfl : s = a := by omega
      exact h.s2, h.s3, h.s4⟩
set_option maxRecDepth 100000 in
set_option maxHeartbeats 16000000 in
theorem sym_more (g c a m b N q n0 : Nat) (key : Nat → Nat) (L : List Nat) (ex : List Value) (w : World) (h : IR w g L ex) (ham : a + 1 < m) (hmb : m + 1 < b) (hbN : b ≤ N) (hN : L.length = N) (hl : N ≤ 1000) (hk : NK key L) (hlt : LtN L n0) (KC : KCmp q key n0 g w) (hs : Srt key L a m) (hs2 : Srt key L m b)
    (IH : ∀ (a' m' b' : Nat) (L' : List Nat) (w' : World), IR w' g L' ex → a' < m' → m' < b' → b' ≤ N → L'.length = N → NK key L' → LtN L' n0 → KCmp q key n0 g w' → Srt key L' a' m' → Srt key L' m' b' → b' - a' < b - a →
      Calls Tryz.prog 98 #[.slice (some ⟨g, 0, none⟩) N c, .int .i64 (a' : Int), .int .i64 (m' : Int), .int .i64 (b' : Int), .func (.func 47) #[] #[.pointer (some ⟨q, 0, none⟩)]] w' (symPost g key L' ex w' a' b')) :
    Calls Tryz.prog 98 #[.slice (some ⟨g, 0, none⟩) N c, .int .i64 (a : Int), .int .i64 (m : Int), .int .i64 (b : Int), .func (.func 47) #[] #[.pointer (some ⟨q, 0, none⟩)]] w (symPost g key L ex w a b) := by
  have HI := Lib.hid h
  have HL := Lib.hid hN
  have HK := Lib.hid hk
  have HT := Lib.hid hlt
  have HC := Lib.hid KC
  have HS := Lib.hid hs
  have HS2 := Lib.hid hs2
  have HH := Lib.hid IH
  obtain ⟨mid, hmid⟩ : ∃ mid, (a + b) / 2 = mid := ⟨_, rfl⟩
  have d0 : ((m : Int) - (a : Int) == 1) = false := by rw [beq_eq_false_iff_ne]; omega
  have d1 : ((b : Int) - (m : Int) == 1) = false := by rw [beq_eq_false_iff_ne]; omega
  have hmid1 : a < mid ∧ mid < b := by omega
  have HMID := Lib.hid hmid
  have e1 : ((a : Int) + (b : Int)) / 2 = (mid : Int) := by omega
  obtain ⟨pp, hpp⟩ : ∃ pp, mid + m - 1 = pp := ⟨_, rfl⟩
  have e2 : (mid : Int) + (m : Int) - 1 = (pp : Int) := by omega
  have HPP := Lib.hid hpp
  clear h hN hk hlt KC hs hs2 IH hmid hpp
  by_cases hmm : mid < m
  · obtain ⟨lo, hlo⟩ : ∃ lo, mid + m - b = lo := ⟨_, rfl⟩
    have e3 : (mid : Int) + (m : Int) - (b : Int) = (lo : Int) := by omega
    have HLO := Lib.hid (show (mid < m ∧ lo = mid + m - b ∧ mid = mid) ∨ (m ≤ mid ∧ lo = a ∧ mid = m) from Or.inl ⟨hmm, hlo.symm, rfl⟩)
    have hlo1 : a ≤ lo ∧ lo ≤ mid := by omega
    clear hlo
    go_enter Tryz.func98, Tryz.ntmps98
    go_wp2
    clear d0 d1 e1 e2 e3
    go_loopw [20, 21, 23] (fun vi vj _ wr => ∃ i j : Nat, vi = .int .i64 (i : Int) ∧ vj = .int .i64 (j : Int) ∧ lo ≤ i ∧ i ≤ j ∧ j ≤ mid ∧ Hid (IR wr g L ex ∧ Chg w wr (fun j => j = g) ∧ (∀ x, lo ≤ x → x < i → key (L.getD x 0) < key (L.getD (mid + m - 1 - x) 0)) ∧ ∀ x, j ≤ x → x < mid → key (L.getD (mid + m - 1 - x) 0) < key (L.getD x 0))) (fun vi vj _ _ => (intOf vj).toNat - (intOf vi).toNat)
    case atStart => exact ⟨lo, mid, rfl, rfl, Nat.le_refl _, by omega, Nat.le_refl _, Lib.hid ⟨HI.out, Chg.refl _ _, fun x p1 p2 => by omega, fun x p1 p2 => by omega⟩⟩
    case round =>
      obtain ⟨i, j, rfl, rfl, hli, hij, hjh, HM⟩ := hrel
      obtain ⟨hM, hC, hlow, hhig⟩ := HM.out
      have XI := Lib.hid hM
      have XC := Lib.hid hC
      have HLow := Lib.hid hlow
      have HHig := Lib.hid hhig
      clear HM hM hC hlow hhig
      have hlh : lo ≤ mid ∧ mid ≤ m ∧ mid ≤ mid ∧ a ≤ lo ∧ mid + m ≤ b + lo := by have := HMID.out; have := HLO.out; omega
      by_cases hlt : i < j
      · obtain ⟨x, hx⟩ : ∃ x, (i + j) / 2 = x := ⟨_, rfl⟩
        have hx1 : i ≤ x ∧ x < j := by omega
        have e1 : ((i : Int) + (j : Int)) / 2 = (x : Int) := by omega
        clear hx
        obtain ⟨y, hy⟩ : ∃ y, mid + m - 1 - x = y := ⟨_, rfl⟩
        have e2 : (pp : Int) - (x : Int) = (y : Int) := by have := HPP.out; omega
        have hy1 : m ≤ y ∧ y < b := by omega
        have HY := Lib.hid hy
        clear hy
        have cx := XI.out.cell (x := x) (by rw [HL.out]; omega)
        have cy := XI.out.cell (x := y) (by rw [HL.out]; omega)
        have KQ := fun k => ((HC.out.chg XC.out).quiet (HT.out.at (i := y) (by rw [HL.out]; omega)) (HT.out.at (i := x) (by rw [HL.out]; omega)) k)
        obtain ⟨vx, hvx⟩ : ∃ vx, L.getD x 0 = vx := ⟨_, rfl⟩
        obtain ⟨va, hva⟩ : ∃ va, L.getD y 0 = va := ⟨_, rfl⟩
        simp only [hvx, hva] at cx cy KQ
        have HVX := Lib.hid hvx
        have HVA := Lib.hid hva
        clear hvx hva
        obtain ⟨cc, hcc⟩ : ∃ cc, cmp3 (key va : Int) (key vx : Int) = cc := ⟨_, rfl⟩
        rw [hcc] at KQ
        have HCMP := Lib.hid (cmpn_lt (key va) (key vx))
        rw [hcc] at HCMP
        clear hcc
        by_cases hneg : cc < 0
        · have HKL := Lib.hid (show key (L.getD (mid + m - 1 - x) 0) < key (L.getD x 0) by rw [HY.out, HVX.out, HVA.out]; exact HCMP.out.1 hneg)
          have dd : (!decide (cc < 0)) = false := by simp [hneg]
          go_wp2
          go_quiet ((go_at_call 47; exact KQ _))
          go_wp2
          go_roundw
          case rel =>
            exact ⟨i, x, rfl, rfl, hli, by omega, by omega, Lib.hid ⟨XI.out, XC.out.drewN _, HLow.out, Part.down (key := key) (L := L) (a := a) (m := m) (b := b) (mid := mid) (lo := lo) (hi := mid) (c := x) (by omega) (by omega) HMID.out.symm (by have := HLO.out; omega) HS.out HS2.out (by omega) (by omega) HKL.out⟩⟩
          case measure => simp [intOf]; omega
        · have HKL := Lib.hid (show key (L.getD x 0) < key (L.getD (mid + m - 1 - x) 0) from HK.out.lt (i := mid + m - 1 - x) (j := x) (by rw [HL.out, HY.out]; omega) (by rw [HL.out]; omega) (by rw [HY.out]; omega) (by rw [HY.out, HVX.out, HVA.out]; exact fun q => hneg (HCMP.out.2 q)))
          have dd : (!decide (cc < 0)) = true := by simp [hneg]
          go_wp2
          go_quiet ((go_at_call 47; exact KQ _))
          go_wp2
          go_roundw
          case rel =>
            exact ⟨x + 1, j, by congr 1, rfl, by omega, by omega, hjh, Lib.hid ⟨XI.out, XC.out.drewN _, Part.up (key := key) (L := L) (a := a) (m := m) (b := b) (mid := mid) (lo := lo) (hi := mid) (s := i) (c := x) (by omega) (by omega) HMID.out.symm (by have := HLO.out; omega) HS.out HS2.out hli (by omega) (by omega) HKL.out, HHig.out⟩⟩
          case measure => simp [intOf]; omega
      · obtain rfl : i = j := by omega
        obtain ⟨en, hen⟩ : ∃ en, mid + m - i = en := ⟨_, rfl⟩
        have e3 : (mid : Int) + (m : Int) - (i : Int) = (en : Int) := by omega
        have hen1 : mid ≤ en ∧ m ≤ en ∧ en ≤ b := by omega
        have HEN := Lib.hid hen
        have HP := Lib.hid (show Part key L a m b mid lo mid i from ⟨by omega, by omega, HMID.out.symm, by have := HLO.out; omega, hli, hjh, HLow.out, HHig.out⟩)
        have HPD : ∀ M, Mg L M a b → (∀ F, RotI F L m (m - i) (en - m) → ∀ p, M.getD p 0 = F p) → Hid (Mid key L M a b mid i en) := fun M hg hR => by
          have := HP.out.done (M := M) HS.out HS2.out (by rw [HEN.out]; exact hR)
          rw [HEN.out] at this
          exact Lib.hid ⟨hg, this.1, this.2.1, this.2.2.1, this.2.2.2.1, this.2.2.2.2⟩
        have HIM := Lib.hid (show i ≤ m ∧ i ≤ mid ∧ a ≤ i ∧ (i < m ∧ m < en ↔ i < m ∧ i < mid) by omega)
        have HPD2 := Lib.hid HPD
        clear HPD HP hen hlh
        by_cases hrot : i < m ∧ m < en
        · have KR := Lib.hid (rotate_any g c i m en N L ex (.func (.func 47) #[] #[.pointer (some ⟨q, 0, none⟩)]) wr XI.out hrot.1 hrot.2 (by omega) HL.out hl)
          have hr1 := hrot.1
          have hr2 := hrot.2
          by_cases ha : a < i ∧ i < mid
          · have ha1 := ha.1
            have ha2 := ha.2
            by_cases hb : mid < en ∧ en < b
            · have hb1 := hb.1
              have hb2 := hb.2
              go_wp2_with (first | (go_at_call 122; ((with_reducible refine KR.out.mono ?_); rintro e w2 ⟨rfl, M, q1, q2, q3, q4⟩; have Y := (HPD2.out M (q3.more (by omega) (by omega)) q4); have YI := Lib.hid q1; have YC := Lib.hid (XC.out.trans q2); clear q1 q2 q3 q4 KR; have KA := Lib.hid (HH.out a i mid M w2 YI.out ha.1 ha.2 (by omega) (by rw [Y.out.mg.length]; exact HL.out) (HK.out.perm Y.out.mg.perm) (HT.out.perm Y.out.mg.perm) (HC.out.chg YC.out) Y.out.s1 Y.out.s2 (by omega)))) | (go_at_call 98; ((with_reducible refine KA.out.mono ?_); rintro e w4 ⟨rfl, K, q1, q2, q3, q4⟩; have V := Y.out.left (K := K) (by omega) (by omega) q3; have VH := Lib.hid (show Half key L K a b mid en from ⟨V.1, V.2.1, q4, V.2.2.1, V.2.2.2⟩); have VI := Lib.hid q1; have VC := Lib.hid (YC.out.trans q2); clear q1 q2 q3 q4 V KA; have KB := Lib.hid (HH.out mid en b K w4 VI.out hb.1 hb.2 hbN (by rw [VH.out.mg.length]; exact HL.out) (HK.out.perm VH.out.mg.perm) (HT.out.perm VH.out.mg.perm) (HC.out.chg VC.out) VH.out.s3 VH.out.s4 (by omega)))) | (go_at_call 98; ((with_reducible refine KB.out.mono ?_); rintro e w5 ⟨rfl, K2, q1, q2, q3, q4⟩; have Z1 := Lib.hid q1; have Z2 := Lib.hid (VC.out.trans q2); have Z3 := Lib.hid (VH.out.done (by omega) q3 q4); clear q1 q2 q3 q4 KB)))
              all_goals first | (exfalso; omega) | (go_end0; exact ⟨rfl, K2, Z1.out, Z2.out, Z3.out.1, Z3.out.2⟩)
            · go_wp2_with (first | (go_at_call 122; ((with_reducible refine KR.out.mono ?_); rintro e w2 ⟨rfl, M, q1, q2, q3, q4⟩; have Y := (HPD2.out M (q3.more (by omega) (by omega)) q4); have YI := Lib.hid q1; have YC := Lib.hid (XC.out.trans q2); clear q1 q2 q3 q4 KR; have KA := Lib.hid (HH.out a i mid M w2 YI.out ha.1 ha.2 (by omega) (by rw [Y.out.mg.length]; exact HL.out) (HK.out.perm Y.out.mg.perm) (HT.out.perm Y.out.mg.perm) (HC.out.chg YC.out) Y.out.s1 Y.out.s2 (by omega)))) | (go_at_call 98; ((with_reducible refine KA.out.mono ?_); rintro e w4 ⟨rfl, K, q1, q2, q3, q4⟩; have V := Y.out.left (K := K) (by omega) (by omega) q3; have VH := Lib.hid (show Half key L K a b mid en from ⟨V.1, V.2.1, q4, V.2.2.1, V.2.2.2⟩); have VI := Lib.hid q1; have VC := Lib.hid (YC.out.trans q2); clear q1 q2 q3 q4 V KA; skip)))
              all_goals first | (exfalso; omega) | (go_end0; exact ⟨rfl, K, VI.out, VC.out, VH.out.mg, VH.out.same (by omega) (by omega) (by omega)⟩)
          · by_cases hb : mid < en ∧ en < b
            · have hb1 := hb.1
              have hb2 := hb.2
              go_wp2_with (first | (go_at_call 122; ((with_reducible refine KR.out.mono ?_); rintro e w2 ⟨rfl, M, q1, q2, q3, q4⟩; have Y := (HPD2.out M (q3.more (by omega) (by omega)) q4); have YI := Lib.hid q1; have YC := Lib.hid (XC.out.trans q2); clear q1 q2 q3 q4 KR; have VH := Lib.hid (Y.out.half ha (by omega) (by omega)); have KB := Lib.hid (HH.out mid en b M w2 YI.out hb.1 hb.2 hbN (by rw [VH.out.mg.length]; exact HL.out) (HK.out.perm VH.out.mg.perm) (HT.out.perm VH.out.mg.perm) (HC.out.chg YC.out) VH.out.s3 VH.out.s4 (by omega)))) | (go_at_call 98; ((with_reducible refine KB.out.mono ?_); rintro e w5 ⟨rfl, K2, q1, q2, q3, q4⟩; have Z1 := Lib.hid q1; have Z2 := Lib.hid (YC.out.trans q2); have Z3 := Lib.hid (VH.out.done (by omega) q3 q4); clear q1 q2 q3 q4 KB)))
              all_goals first | (exfalso; omega) | (go_end0; exact ⟨rfl, K2, Z1.out, Z2.out, Z3.out.1, Z3.out.2⟩)
            · go_wp2_with (first | (go_at_call 122; ((with_reducible refine KR.out.mono ?_); rintro e w2 ⟨rfl, M, q1, q2, q3, q4⟩; have Y := (HPD2.out M (q3.more (by omega) (by omega)) q4); have YI := Lib.hid q1; have YC := Lib.hid (XC.out.trans q2); clear q1 q2 q3 q4 KR; have VH := Lib.hid (Y.out.half ha (by omega) (by omega)))))
              all_goals first | (exfalso; omega) | (go_end0; exact ⟨rfl, M, YI.out, YC.out, VH.out.mg, VH.out.same (by omega) (by omega) (by omega)⟩)
        · have Y := HPD2.out L (Mg.refl _ _ _) (fun F hF p => RotI.none hF (by omega) p)
          have YI := XI
          have YC := XC
          by_cases ha : a < i ∧ i < mid
          · have ha1 := ha.1
            have ha2 := ha.2
            by_cases hb : mid < en ∧ en < b
            · have hb1 := hb.1
              have hb2 := hb.2
              have KA := Lib.hid (HH.out a i mid L wr YI.out ha.1 ha.2 (by omega) (by rw [Y.out.mg.length]; exact HL.out) (HK.out.perm Y.out.mg.perm) (HT.out.perm Y.out.mg.perm) (HC.out.chg YC.out) Y.out.s1 Y.out.s2 (by omega))
              go_wp2_with (first | (go_at_call 98; ((with_reducible refine KA.out.mono ?_); rintro e w4 ⟨rfl, K, q1, q2, q3, q4⟩; have V := Y.out.left (K := K) (by omega) (by omega) q3; have VH := Lib.hid (show Half key L K a b mid en from ⟨V.1, V.2.1, q4, V.2.2.1, V.2.2.2⟩); have VI := Lib.hid q1; have VC := Lib.hid (YC.out.trans q2); clear q1 q2 q3 q4 V KA; have KB := Lib.hid (HH.out mid en b K w4 VI.out hb.1 hb.2 hbN (by rw [VH.out.mg.length]; exact HL.out) (HK.out.perm VH.out.mg.perm) (HT.out.perm VH.out.mg.perm) (HC.out.chg VC.out) VH.out.s3 VH.out.s4 (by omega)))) | (go_at_call 98; ((with_reducible refine KB.out.mono ?_); rintro e w5 ⟨rfl, K2, q1, q2, q3, q4⟩; have Z1 := Lib.hid q1; have Z2 := Lib.hid (VC.out.trans q2); have Z3 := Lib.hid (VH.out.done (by omega) q3 q4); clear q1 q2 q3 q4 KB)))
              all_goals first | (exfalso; omega) | (go_end0; exact ⟨rfl, K2, Z1.out, Z2.out, Z3.out.1, Z3.out.2⟩)
            · have KA := Lib.hid (HH.out a i mid L wr YI.out ha.1 ha.2 (by omega) (by rw [Y.out.mg.length]; exact HL.out) (HK.out.perm Y.out.mg.perm) (HT.out.perm Y.out.mg.perm) (HC.out.chg YC.out) Y.out.s1 Y.out.s2 (by omega))
              go_wp2_with (first | (go_at_call 98; ((with_reducible refine KA.out.mono ?_); rintro e w4 ⟨rfl, K, q1, q2, q3, q4⟩; have V := Y.out.left (K := K) (by omega) (by omega) q3; have VH := Lib.hid (show Half key L K a b mid en from ⟨V.1, V.2.1, q4, V.2.2.1, V.2.2.2⟩); have VI := Lib.hid q1; have VC := Lib.hid (YC.out.trans q2); clear q1 q2 q3 q4 V KA; skip)))
              all_goals first | (exfalso; omega) | (go_end0; exact ⟨rfl, K, VI.out, VC.out, VH.out.mg, VH.out.same (by omega) (by omega) (by omega)⟩)
          · by_cases hb : mid < en ∧ en < b
            · have hb1 := hb.1
              have hb2 := hb.2
              have VH := Lib.hid (Y.out.half ha (by omega) (by omega))
              have KB := Lib.hid (HH.out mid en b L wr YI.out hb.1 hb.2 hbN (by rw [VH.out.mg.length]; exact HL.out) (HK.out.perm VH.out.mg.perm) (HT.out.perm VH.out.mg.perm) (HC.out.chg YC.out) VH.out.s3 VH.out.s4 (by omega))
              go_wp2_with (first | (go_at_call 98; ((with_reducible refine KB.out.mono ?_); rintro e w5 ⟨rfl, K2, q1, q2, q3, q4⟩; have Z1 := Lib.hid q1; have Z2 := Lib.hid (YC.out.trans q2); have Z3 := Lib.hid (VH.out.done (by omega) q3 q4); clear q1 q2 q3 q4 KB)))
              all_goals first | (exfalso; omega) | (go_end0; exact ⟨rfl, K2, Z1.out, Z2.out, Z3.out.1, Z3.out.2⟩)
            · have VH := Lib.hid (Y.out.half ha (by omega) (by omega))
              go_wp2
              all_goals first | (exfalso; omega) | (go_end0; exact ⟨rfl, L, YI.out, YC.out, VH.out.mg, VH.out.same (by omega) (by omega) (by omega)⟩)
  · have HLO := Lib.hid (show (mid < m ∧ a = mid + m - b ∧ m = mid) ∨ (m ≤ mid ∧ a = a ∧ m = m) from Or.inr ⟨by omega, rfl, rfl⟩)
    go_enter Tryz.func98, Tryz.ntmps98
    go_wp2
    clear d0 d1 e1 e2
    go_loopw [20, 21, 23] (fun vi vj _ wr => ∃ i j : Nat, vi = .int .i64 (i : Int) ∧ vj = .int .i64 (j : Int) ∧ a ≤ i ∧ i ≤ j ∧ j ≤ m ∧ Hid (IR wr g L ex ∧ Chg w wr (fun j => j = g) ∧ (∀ x, a ≤ x → x < i → key (L.getD x 0) < key (L.getD (mid + m - 1 - x) 0)) ∧ ∀ x, j ≤ x → x < m → key (L.getD (mid + m - 1 - x) 0) < key (L.getD x 0))) (fun vi vj _ _ => (intOf vj).toNat - (intOf vi).toNat)
    case atStart => exact ⟨a, m, rfl, rfl, Nat.le_refl _, by omega, Nat.le_refl _, Lib.hid ⟨HI.out, Chg.refl _ _, fun x p1 p2 => by omega, fun x p1 p2 => by omega⟩⟩
    case round =>
      obtain ⟨i, j, rfl, rfl, hli, hij, hjh, HM⟩ := hrel
      obtain ⟨hM, hC, hlow, hhig⟩ := HM.out
      have XI := Lib.hid hM
      have XC := Lib.hid hC
      have HLow := Lib.hid hlow
      have HHig := Lib.hid hhig
      clear HM hM hC hlow hhig
      have hlh : a ≤ m ∧ m ≤ m ∧ m ≤ mid ∧ a ≤ a ∧ mid + m ≤ b + a := by have := HMID.out; have := HLO.out; omega
      by_cases hlt : i < j
      · obtain ⟨x, hx⟩ : ∃ x, (i + j) / 2 = x := ⟨_, rfl⟩
        have hx1 : i ≤ x ∧ x < j := by omega
        have e1 : ((i : Int) + (j : Int)) / 2 = (x : Int) := by omega
        clear hx
        obtain ⟨y, hy⟩ : ∃ y, mid + m - 1 - x = y := ⟨_, rfl⟩
        have e2 : (pp : Int) - (x : Int) = (y : Int) := by have := HPP.out; omega
        have hy1 : m ≤ y ∧ y < b := by omega
        have HY := Lib.hid hy
        clear hy
        have cx := XI.out.cell (x := x) (by rw [HL.out]; omega)
        have cy := XI.out.cell (x := y) (by rw [HL.out]; omega)
        have KQ := fun k => ((HC.out.chg XC.out).quiet (HT.out.at (i := y) (by rw [HL.out]; omega)) (HT.out.at (i := x) (by rw [HL.out]; omega)) k)
        obtain ⟨vx, hvx⟩ : ∃ vx, L.getD x 0 = vx := ⟨_, rfl⟩
        obtain ⟨va, hva⟩ : ∃ va, L.getD y 0 = va := ⟨_, rfl⟩
        simp only [hvx, hva] at cx cy KQ
        have HVX := Lib.hid hvx
        have HVA := Lib.hid hva
        clear hvx hva
        obtain ⟨cc, hcc⟩ : ∃ cc, cmp3 (key va : Int) (key vx : Int) = cc := ⟨_, rfl⟩
        rw [hcc] at KQ
        have HCMP := Lib.hid (cmpn_lt (key va) (key vx))
        rw [hcc] at HCMP
        clear hcc
        by_cases hneg : cc < 0
        · have HKL := Lib.hid (show key (L.getD (mid + m - 1 - x) 0) < key (L.getD x 0) by rw [HY.out, HVX.out, HVA.out]; exact HCMP.out.1 hneg)
          have dd : (!decide (cc < 0)) = false := by simp [hneg]
          go_wp2
          go_quiet ((go_at_call 47; exact KQ _))
          go_wp2
          go_roundw
          case rel =>
            exact ⟨i, x, rfl, rfl, hli, by omega, by omega, Lib.hid ⟨XI.out, XC.out.drewN _, HLow.out, Part.down (key := key) (L := L) (a := a) (m := m) (b := b) (mid := mid) (lo := a) (hi := m) (c := x) (by omega) (by omega) HMID.out.symm (by have := HLO.out; omega) HS.out HS2.out (by omega) (by omega) HKL.out⟩⟩
          case measure => simp [intOf]; omega
        · have HKL := Lib.hid (show key (L.getD x 0) < key (L.getD (mid + m - 1 - x) 0) from HK.out.lt (i := mid + m - 1 - x) (j := x) (by rw [HL.out, HY.out]; omega) (by rw [HL.out]; omega) (by rw [HY.out]; omega) (by rw [HY.out, HVX.out, HVA.out]; exact fun q => hneg (HCMP.out.2 q)))
          have dd : (!decide (cc < 0)) = true := by simp [hneg]
          go_wp2
          go_quiet ((go_at_call 47; exact KQ _))
          go_wp2
          go_roundw
          case rel =>
            exact ⟨x + 1, j, by congr 1, rfl, by omega, by omega, hjh, Lib.hid ⟨XI.out, XC.out.drewN _, Part.up (key := key) (L := L) (a := a) (m := m) (b := b) (mid := mid) (lo := a) (hi := m) (s := i) (c := x) (by omega) (by omega) HMID.out.symm (by have := HLO.out; omega) HS.out HS2.out hli (by omega) (by omega) HKL.out, HHig.out⟩⟩
          case measure => simp [intOf]; omega
      · obtain rfl : i = j := by omega
        obtain ⟨en, hen⟩ : ∃ en, mid + m - i = en := ⟨_, rfl⟩
        have e3 : (mid : Int) + (m : Int) - (i : Int) = (en : Int) := by omega
        have hen1 : mid ≤ en ∧ m ≤ en ∧ en ≤ b := by omega
        have HEN := Lib.hid hen
        have HP := Lib.hid (show Part key L a m b mid a m i from ⟨by omega, by omega, HMID.out.symm, by have := HLO.out; omega, hli, hjh, HLow.out, HHig.out⟩)
        have HPD : ∀ M, Mg L M a b → (∀ F, RotI F L m (m - i) (en - m) → ∀ p, M.getD p 0 = F p) → Hid (Mid key L M a b mid i en) := fun M hg hR => by
          have := HP.out.done (M := M) HS.out HS2.out (by rw [HEN.out]; exact hR)
          rw [HEN.out] at this
          exact Lib.hid ⟨hg, this.1, this.2.1, this.2.2.1, this.2.2.2.1, this.2.2.2.2⟩
        have HIM := Lib.hid (show i ≤ m ∧ i ≤ mid ∧ a ≤ i ∧ (i < m ∧ m < en ↔ i < m ∧ i < mid) by omega)
        have HPD2 := Lib.hid HPD
        clear HPD HP hen hlh
        by_cases hrot : i < m ∧ m < en
        · have KR := Lib.hid (rotate_any g c i m en N L ex (.func (.func 47) #[] #[.pointer (some ⟨q, 0, none⟩)]) wr XI.out hrot.1 hrot.2 (by omega) HL.out hl)
          have hr1 := hrot.1
          have hr2 := hrot.2
          by_cases ha : a < i ∧ i < mid
          · have ha1 := ha.1
            have ha2 := ha.2
            by_cases hb : mid < en ∧ en < b
            · have hb1 := hb.1
              have hb2 := hb.2
              go_wp2_with (first | (go_at_call 122; ((with_reducible refine KR.out.mono ?_); rintro e w2 ⟨rfl, M, q1, q2, q3, q4⟩; have Y := (HPD2.out M (q3.more (by omega) (by omega)) q4); have YI := Lib.hid q1; have YC := Lib.hid (XC.out.trans q2); clear q1 q2 q3 q4 KR; have KA := Lib.hid (HH.out a i mid M w2 YI.out ha.1 ha.2 (by omega) (by rw [Y.out.mg.length]; exact HL.out) (HK.out.perm Y.out.mg.perm) (HT.out.perm Y.out.mg.perm) (HC.out.chg YC.out) Y.out.s1 Y.out.s2 (by omega)))) | (go_at_call 98; ((with_reducible refine KA.out.mono ?_); rintro e w4 ⟨rfl, K, q1, q2, q3, q4⟩; have V := Y.out.left (K := K) (by omega) (by omega) q3; have VH := Lib.hid (show Half key L K a b mid en from ⟨V.1, V.2.1, q4, V.2.2.1, V.2.2.2⟩); have VI := Lib.hid q1; have VC := Lib.hid (YC.out.trans q2); clear q1 q2 q3 q4 V KA; have KB := Lib.hid (HH.out mid en b K w4 VI.out hb.1 hb.2 hbN (by rw [VH.out.mg.length]; exact HL.out) (HK.out.perm VH.out.mg.perm) (HT.out.perm VH.out.mg.perm) (HC.out.chg VC.out) VH.out.s3 VH.out.s4 (by omega)))) | (go_at_call 98; ((with_reducible refine KB.out.mono ?_); rintro e w5 ⟨rfl, K2, q1, q2, q3, q4⟩; have Z1 := Lib.hid q1; have Z2 := Lib.hid (VC.out.trans q2); have Z3 := Lib.hid (VH.out.done (by omega) q3 q4); clear q1 q2 q3 q4 KB)))
              all_goals first | (exfalso; omega) | (go_end0; exact ⟨rfl, K2, Z1.out, Z2.out, Z3.out.1, Z3.out.2⟩)
            · go_wp2_with (first | (go_at_call 122; ((with_reducible refine KR.out.mono ?_); rintro e w2 ⟨rfl, M, q1, q2, q3, q4⟩; have Y := (HPD2.out M (q3.more (by omega) (by omega)) q4); have YI := Lib.hid q1; have YC := Lib.hid (XC.out.trans q2); clear q1 q2 q3 q4 KR; have KA := Lib.hid (HH.out a i mid M w2 YI.out ha.1 ha.2 (by omega) (by rw [Y.out.mg.length]; exact HL.out) (HK.out.perm Y.out.mg.perm) (HT.out.perm Y.out.mg.perm) (HC.out.chg YC.out) Y.out.s1 Y.out.s2 (by omega)))) | (go_at_call 98; ((with_reducible refine KA.out.mono ?_); rintro e w4 ⟨rfl, K, q1, q2, q3, q4⟩; have V := Y.out.left (K := K) (by omega) (by omega) q3; have VH := Lib.hid (show Half key L K a b mid en from ⟨V.1, V.2.1, q4, V.2.2.1, V.2.2.2⟩); have VI := Lib.hid q1; have VC := Lib.hid (YC.out.trans q2); clear q1 q2 q3 q4 V KA; skip)))
              all_goals first | (exfalso; omega) | (go_end0; exact ⟨rfl, K, VI.out, VC.out, VH.out.mg, VH.out.same (by omega) (by omega) (by omega)⟩)
          · by_cases hb : mid < en ∧ en < b
            · have hb1 := hb.1
              have hb2 := hb.2
              go_wp2_with (first | (go_at_call 122; ((with_reducible refine KR.out.mono ?_); rintro e w2 ⟨rfl, M, q1, q2, q3, q4⟩; have Y := (HPD2.out M (q3.more (by omega) (by omega)) q4); have YI := Lib.hid q1; have YC := Lib.hid (XC.out.trans q2); clear q1 q2 q3 q4 KR; have VH := Lib.hid (Y.out.half ha (by omega) (by omega)); have KB := Lib.hid (HH.out mid en b M w2 YI.out hb.1 hb.2 hbN (by rw [VH.out.mg.length]; exact HL.out) (HK.out.perm VH.out.mg.perm) (HT.out.perm VH.out.mg.perm) (HC.out.chg YC.out) VH.out.s3 VH.out.s4 (by omega)))) | (go_at_call 98; ((with_reducible refine KB.out.mono ?_); rintro e w5 ⟨rfl, K2, q1, q2, q3, q4⟩; have Z1 := Lib.hid q1; have Z2 := Lib.hid (YC.out.trans q2); have Z3 := Lib.hid (VH.out.done (by omega) q3 q4); clear q1 q2 q3 q4 KB)))
              all_goals first | (exfalso; omega) | (go_end0; exact ⟨rfl, K2, Z1.out, Z2.out, Z3.out.1, Z3.out.2⟩)
            · go_wp2_with (first | (go_at_call 122; ((with_reducible refine KR.out.mono ?_); rintro e w2 ⟨rfl, M, q1, q2, q3, q4⟩; have Y := (HPD2.out M (q3.more (by omega) (by omega)) q4); have YI := Lib.hid q1; have YC := Lib.hid (XC.out.trans q2); clear q1 q2 q3 q4 KR; have VH := Lib.hid (Y.out.half ha (by omega) (by omega)))))
              all_goals first | (exfalso; omega) | (go_end0; exact ⟨rfl, M, YI.out, YC.out, VH.out.mg, VH.out.same (by omega) (by omega) (by omega)⟩)
        · have Y := HPD2.out L (Mg.refl _ _ _) (fun F hF p => RotI.none hF (by omega) p)
          have YI := XI
          have YC := XC
          by_cases ha : a < i ∧ i < mid
          · have ha1 := ha.1
            have ha2 := ha.2
            by_cases hb : mid < en ∧ en < b
            · have hb1 := hb.1
              have hb2 := hb.2
              have KA := Lib.hid (HH.out a i mid L wr YI.out ha.1 ha.2 (by omega) (by rw [Y.out.mg.length]; exact HL.out) (HK.out.perm Y.out.mg.perm) (HT.out.perm Y.out.mg.perm) (HC.out.chg YC.out) Y.out.s1 Y.out.s2 (by omega))
              go_wp2_with (first | (go_at_call 98; ((with_reducible refine KA.out.mono ?_); rintro e w4 ⟨rfl, K, q1, q2, q3, q4⟩; have V := Y.out.left (K := K) (by omega) (by omega) q3; have VH := Lib.hid (show Half key L K a b mid en from ⟨V.1, V.2.1, q4, V.2.2.1, V.2.2.2⟩); have VI := Lib.hid q1; have VC := Lib.hid (YC.out.trans q2); clear q1 q2 q3 q4 V KA; have KB := Lib.hid (HH.out mid en b K w4 VI.out hb.1 hb.2 hbN (by rw [VH.out.mg.length]; exact HL.out) (HK.out.perm VH.out.mg.perm) (HT.out.perm VH.out.mg.perm) (HC.out.chg VC.out) VH.out.s3 VH.out.s4 (by omega)))) | (go_at_call 98; ((with_reducible refine KB.out.mono ?_); rintro e w5 ⟨rfl, K2, q1, q2, q3, q4⟩; have Z1 := Lib.hid q1; have Z2 := Lib.hid (VC.out.trans q2); have Z3 := Lib.hid (VH.out.done (by omega) q3 q4); clear q1 q2 q3 q4 KB)))
              all_goals first | (exfalso; omega) | (go_end0; exact ⟨rfl, K2, Z1.out, Z2.out, Z3.out.1, Z3.out.2⟩)
            · have KA := Lib.hid (HH.out a i mid L wr YI.out ha.1 ha.2 (by omega) (by rw [Y.out.mg.length]; exact HL.out) (HK.out.perm Y.out.mg.perm) (HT.out.perm Y.out.mg.perm) (HC.out.chg YC.out) Y.out.s1 Y.out.s2 (by omega))
              go_wp2_with (first | (go_at_call 98; ((with_reducible refine KA.out.mono ?_); rintro e w4 ⟨rfl, K, q1, q2, q3, q4⟩; have V := Y.out.left (K := K) (by omega) (by omega) q3; have VH := Lib.hid (show Half key L K a b mid en from ⟨V.1, V.2.1, q4, V.2.2.1, V.2.2.2⟩); have VI := Lib.hid q1; have VC := Lib.hid (YC.out.trans q2); clear q1 q2 q3 q4 V KA; skip)))
              all_goals first | (exfalso; omega) | (go_end0; exact ⟨rfl, K, VI.out, VC.out, VH.out.mg, VH.out.same (by omega) (by omega) (by omega)⟩)
          · by_cases hb : mid < en ∧ en < b
            · have hb1 := hb.1
              have hb2 := hb.2
              have VH := Lib.hid (Y.out.half ha (by omega) (by omega))
              have KB := Lib.hid (HH.out mid en b L wr YI.out hb.1 hb.2 hbN (by rw [VH.out.mg.length]; exact HL.out) (HK.out.perm VH.out.mg.perm) (HT.out.perm VH.out.mg.perm) (HC.out.chg YC.out) VH.out.s3 VH.out.s4 (by omega))
              go_wp2_with (first | (go_at_call 98; ((with_reducible refine KB.out.mono ?_); rintro e w5 ⟨rfl, K2, q1, q2, q3, q4⟩; have Z1 := Lib.hid q1; have Z2 := Lib.hid (YC.out.trans q2); have Z3 := Lib.hid (VH.out.done (by omega) q3 q4); clear q1 q2 q3 q4 KB)))
              all_goals first | (exfalso; omega) | (go_end0; exact ⟨rfl, K2, Z1.out, Z2.out, Z3.out.1, Z3.out.2⟩)
            · have VH := Lib.hid (Y.out.half ha (by omega) (by omega))
              go_wp2
              all_goals first | (exfalso; omega) | (go_end0; exact ⟨rfl, L, YI.out, YC.out, VH.out.mg, VH.out.same (by omega) (by omega) (by omega)⟩)
end Go.Proofs.YtdiocjneakfdgaaGreatDoor

/- A stable sort of at most forty numbers. Condition: no two keys are alike. -/
namespace Go.Proofs.YtdiocjneakfdgaaGreatDoor
open Go.RowKit
theorem sym_any (g c N q n0 : Nat) (key : Nat → Nat) (ex : List Value) (hl : N ≤ 1000) : ∀ (k a m b : Nat) (L : List Nat) (w : World), b - a ≤ k → IR w g L ex → a < m → m < b → b ≤ N → L.length = N → NK key L → LtN L n0 → KCmp q key n0 g w → Srt key L a m → Srt key L m b →
    Calls Tryz.prog 98 #[.slice (some ⟨g, 0, none⟩) N c, .int .i64 (a : Int), .int .i64 (m : Int), .int .i64 (b : Int), .func (.func 47) #[] #[.pointer (some ⟨q, 0, none⟩)]] w (symPost g key L ex w a b)
  | 0, a, m, b, _, _, hk, _, h1, h2, _, _, _, _, _, _, _ => absurd hk (by omega)
  | k + 1, a, m, b, L, w, hk, h, h1, h2, h3, hN, hK, hT, KC, s1, s2 => by
    by_cases c1 : m = a + 1
    · subst c1
      exact sym_one g c a b N q n0 key L ex w h h2 h3 hN hl hK hT KC s2
    · by_cases c2 : b = m + 1
      · subst c2
        exact sym_two g c a m N q n0 key L ex w h (by omega) h3 hN hl hK hT KC s1
      · exact sym_more g c a m b N q n0 key L ex w h (by omega) (by omega) h3 hN hl hK hT KC s1 s2
          (fun a' m' b' L' w' i1 i2 i3 i4 i5 i6 i7 i8 i9 i10 i11 => sym_any g c N q n0 key ex hl k a' m' b' L' w' (by omega) i1 i2 i3 i4 i5 i6 i7 i8 i9 i10)
set_option maxRecDepth 100000 in
set_option maxHeartbeats 8000000 in
theorem stable_any (g c N q n0 : Nat) (key : Nat → Nat) (L : List Nat) (ex : List Value) (w : World) (h : IR w g L ex) (hN : L.length = N) (hl : N < 40) (hk : NK key L) (hlt : LtN L n0) (KC : KCmp q key n0 g w) :
    Calls Tryz.prog 70 #[.slice (some ⟨g, 0, none⟩) N c, .int .i64 (N : Int), .func (.func 47) #[] #[.pointer (some ⟨q, 0, none⟩)]] w fun e w' => e = .returned (.tuple #[]) ∧ ∃ M, IR w' g M ex ∧ Chg w w' (fun j => j = g) ∧ M.Perm L ∧ Srt key M 0 N := by
  have HI := Lib.hid h
  have HL := Lib.hid hN
  have HK := Lib.hid hk
  have HT := Lib.hid hlt
  have HC := Lib.hid KC
  have KI := Lib.hid (fun (a b : Nat) (hab : a ≤ b) (hbN : b ≤ N) (M : List Nat) (w' : World) (h1 : IR w' g M ex) (h2 : Chg w w' (fun j => j = g)) (hp : M.Perm L) =>
    (insertion_any g c a b N q n0 key M ex w' h1 hab hbN (hp.length_eq.trans hN) (by omega) (hk.perm hp) (hlt.perm hp) (KC.chg h2)).mono
      (R' := fun e w2 => e = .returned (.tuple #[]) ∧ ∃ K, Hid (IR w2 g K ex ∧ Chg w w2 (fun j => j = g) ∧ K.Perm L ∧ Mg M K a b ∧ Srt key K a b)) (fun e w2 ⟨e1, K, q1, q2, q3, q4⟩ => ⟨e1, K, Lib.hid ⟨q1, h2.trans q2, q3.perm.trans hp, q3, q4⟩⟩))
  have KS := Lib.hid (fun (a m b : Nat) (ham : a < m) (hmb : m < b) (hbN : b ≤ N) (M : List Nat) (w' : World) (h1 : IR w' g M ex) (h2 : Chg w w' (fun j => j = g)) (hp : M.Perm L) (s1 : Srt key M a m) (s2 : Srt key M m b) =>
    (sym_any g c N q n0 key ex (by omega) (b - a) a m b M w' (Nat.le_refl _) h1 ham hmb hbN (hp.length_eq.trans hN) (hk.perm hp) (hlt.perm hp) (KC.chg h2) s1 s2).mono
      (R' := fun e w2 => e = .returned (.tuple #[]) ∧ ∃ K, Hid (IR w2 g K ex ∧ Chg w w2 (fun j => j = g) ∧ K.Perm L ∧ Mg M K a b ∧ Srt key K a b)) (fun e w2 ⟨e1, K, q1, q2, q3, q4⟩ => ⟨e1, K, Lib.hid ⟨q1, h2.trans q2, q3.perm.trans hp, q3, q4⟩⟩))
  clear h hN hk hlt KC
  go_enter Tryz.func70, Tryz.ntmps70
  go_wp2
  go_loopw [7, 8] (fun va vb wr => ∃ t : Nat, va = .int .i64 ((20 * t : Nat) : Int) ∧ vb = .int .i64 ((20 * t + 20 : Nat) : Int) ∧ t ≤ 1 ∧ 20 * t ≤ N ∧ Hid (∃ M, IR wr g M ex ∧ Chg w wr (fun j => j = g) ∧ M.Perm L ∧ Srt key M 0 (20 * t))) (fun va _ _ => 60 - (intOf va).toNat)
  case atStart => exact ⟨0, rfl, rfl, by omega, by omega, Lib.hid ⟨L, HI.out, Chg.refl _ _, List.Perm.refl _, fun i j p1 p2 p3 => by omega⟩⟩
  case round =>
    obtain ⟨t, rfl, rfl, ht, htN, HM⟩ := hrel
    obtain ⟨M, hM, hC, hP, hS⟩ := HM.out
    have HS := Lib.hid hS
    obtain ⟨x, hx⟩ : ∃ x, 20 * t = x := ⟨_, rfl⟩
    have hxs : x = 0 ∨ x = 20 := by omega
    rw [hx] at HS htN ⊢
    by_cases h1 : x = 0 ∧ 20 ≤ N
    · obtain ⟨rfl, h20⟩ := h1
      have K1 := Lib.hid (KI.out 0 20 (by omega) h20 M wr hM hC hP)
      simp only [show ((20 : Nat) : Int) = 20 from rfl, show ((0 : Nat) : Int) = 0 from rfl] at K1
      clear hM hC hP hS HM
      go_wp2_with (go_at_call 97; ((with_reducible refine K1.out.mono ?_); rintro e w2 ⟨rfl, K, HZ⟩; clear K1))
      go_roundw
      case rel => exact ⟨1, rfl, rfl, by omega, by omega, Lib.hid ⟨K, HZ.out.1, HZ.out.2.1, HZ.out.2.2.1, HZ.out.2.2.2.2⟩⟩
      case measure => simp [intOf]
    · have h1b : ¬ (((x + 20 : Nat) : Int) ≤ (N : Int)) := by omega
      have hxN : x ≤ N := htN
      have K1 := Lib.hid (KI.out x N hxN (Nat.le_refl _) M wr hM hC hP)
      have HMS := Lib.hid hS
      rw [hx] at HMS
      clear hM hC hP hS HM HS
      go_wp2_with (go_at_call 97; ((with_reducible refine K1.out.mono ?_); rintro e w2 ⟨rfl, K, HZ⟩; have HKS := Lib.hid (HMS.out.out HZ.out.2.2.2.1 (Or.inl (Nat.le_refl _))); clear K1 HMS))
      go_loopw [6, 7, 8, 9] (fun vs _ _ _ wr => (vs = .int .i64 20 ∧ Hid (∃ K, IR wr g K ex ∧ Chg w wr (fun j => j = g) ∧ K.Perm L ∧ Srt key K 0 x ∧ Srt key K x N)) ∨ (vs = .int .i64 40 ∧ Hid (∃ K, IR wr g K ex ∧ Chg w wr (fun j => j = g) ∧ K.Perm L ∧ Srt key K 0 N))) (fun vs _ _ _ _ => 60 - (intOf vs).toNat)
      case atStart => exact Or.inl ⟨rfl, Lib.hid ⟨K, HZ.out.1, HZ.out.2.1, HZ.out.2.2.1, HKS.out, HZ.out.2.2.2.2⟩⟩
      case round =>
        obtain ⟨W0, hW0⟩ : ∃ W0, W0 = wr := ⟨_, rfl⟩
        subst hW0
        clear HZ HKS
        rcases hrel with ⟨rfl, HQ⟩ | ⟨rfl, HQ⟩
        · obtain ⟨K2, q1, q2, q3, q4, q5⟩ := HQ.out
          by_cases h20 : 20 < N
          · have hx20 : x = 20 := by omega
            rw [hx20] at q4 q5
            have K3 := Lib.hid (KS.out 0 20 N (by omega) h20 (Nat.le_refl _) K2 W0 q1 q2 q3 q4 q5)
            simp only [show ((20 : Nat) : Int) = 20 from rfl, show ((0 : Nat) : Int) = 0 from rfl] at K3
            clear q1 q2 q3 q4 q5 HQ hx20
            have dd : decide ((20 : Int) < (N : Int)) = true := by simp; omega
            have d3 : (20 : Int) < (N : Int) := by omega
            go_wp2
            go_loopw [7, 8] (fun va vb wr => va = .int .i64 0 ∧ vb = .int .i64 40 ∧ Hid (wr = W0)) (fun _ _ _ => 0)
            case atStart => exact ⟨rfl, rfl, Lib.hid rfl⟩
            case round =>
              obtain ⟨rfl, rfl, HE⟩ := hrel
              have hE := HE.out
              subst hE
              have d1 : ¬ ((40 : Int) ≤ (N : Int)) := by omega
              go_wp2_with (go_at_call 98; ((with_reducible refine K3.out.mono ?_); rintro e w3 ⟨rfl, K4, HZ⟩; clear K3))
              go_roundw
              case rel => exact Or.inr ⟨rfl, Lib.hid ⟨K4, HZ.out.1, HZ.out.2.1, HZ.out.2.2.1, HZ.out.2.2.2.2⟩⟩
              case measure => simp [intOf]
          · go_wp2
            go_end0
            refine ⟨rfl, K2, q1, q2, q3, ?_⟩
            by_cases e : x = 0
            · rw [e] at q5; exact q5
            · obtain rfl : x = N := by omega
              exact q4
        · obtain ⟨K2, q1, q2, q3, q4⟩ := HQ.out
          have d1 : ¬ ((40 : Int) < (N : Int)) := by omega
          go_wp2
          go_end0
          exact ⟨rfl, K2, q1, q2, q3, q4⟩
theorem sortStable_any (g c N q n0 : Nat) (key : Nat → Nat) (L : List Nat) (ex : List Value) (w : World) (h : IR w g L ex) (hN : L.length = N) (hl : N < 40) (hk : NK key L) (hlt : LtN L n0) (KC : KCmp q key n0 g w) :
    Calls Tryz.prog 46 #[.slice (some ⟨g, 0, none⟩) N c, .func (.func 47) #[] #[.pointer (some ⟨q, 0, none⟩)]] w fun e w' => e = .returned (.tuple #[]) ∧ ∃ M, IR w' g M ex ∧ Chg w w' (fun j => j = g) ∧ M.Perm L ∧ Srt key M 0 N := by
  have K := Lib.hid (stable_any g c N q n0 key L ex w h hN hl hk hlt KC)
  clear h hN hk hlt KC
  go_enter Tryz.func46, Tryz.ntmps46
  go_wp2_with (go_at_call 70; ((with_reducible refine K.out.mono ?_); rintro e w2 ⟨rfl, M, q1, q2, q3, q4⟩))
  go_end0
  exact ⟨rfl, M, q1, q2, q3, q4⟩
end Go.Proofs.YtdiocjneakfdgaaGreatDoor


/- The walk of NameDeep: it answers true, and changes nothing that was there. No condition but that internal/bytealg's MaxLen is some int. -/
import Derived.Test.YteihffmenfobaaaDoorQNameJoins
import Derived.Test.YteihffmenfobaaaDoorQNandAnd
namespace Go.Proofs.YteihffmenfobaaaDoor
open Go.RowKit Go.Shelf
theorem nd_low (z : Int) (k m : Nat) (hk : (BitVec.ofInt 64 (m : Int)).toNat = 2 ^ k - 1) (h : 2 ^ k ≤ 4294967296) : ∃ n : Nat, bits .and .i64 z (m : Int) = n ∧ n < 2 ^ k :=
  ⟨_, and_low z k m hk h, Nat.mod_lt _ (Nat.two_pow_pos k)⟩
def nB : ByteArray := ⟨#[110]⟩
def xB (k : Nat) : ByteArray := ⟨(List.replicate k 120).toArray⟩
theorem xB_list (k : Nat) : (xB k).data.toList = List.replicate k 120 := by simp [xB]
theorem xB_size (k : Nat) : (xB k).size = k := by rw [Lib.size_eq, xB_list, List.length_replicate]
theorem xB_next (k : Nat) : xB k ++ ⟨#[120]⟩ = xB (k + 1) := bytes_eq (by rw [xB_list, List.replicate_succ']; simp [xB])
theorem fit_ns (m : Nat) : fitL (dl (List.replicate m nB)) = decide (m ≤ 6) := by
  unfold fitL
  rw [dl_length, List.length_replicate]
  have : (dl (List.replicate m nB)).all rightL = true := by
    rw [List.all_eq_true]
    intro x hx
    simp only [dl, List.map_replicate] at hx
    rw [(List.mem_replicate.1 hx).2]
    decide
  rw [this, Bool.and_true]
theorem right_x (k : Nat) : rightL (List.replicate k 120) = (decide (1 ≤ k) && decide (k ≤ 12)) := by
  unfold rightL
  rw [Bool.eq_iff_iff]
  simp only [List.length_replicate, Bool.and_eq_true, decide_eq_true_eq, List.mem_replicate]
  constructor
  · rintro ⟨a, b, _⟩
    exact ⟨a, b⟩
  · rintro ⟨a, b⟩
    refine ⟨a, b, by simp, by simp, fun e => ?_, fun e => ?_⟩
    · match k, e with
      | 1, e => simp at e
    · match k, e with
      | 2, e => simp [List.replicate] at e
theorem fit_x (k : Nat) : fitL (dl [xB k]) = rightL (List.replicate k 120) := by
  unfold fitL
  simp [dl, xB_list]
set_option maxRecDepth 100000 in
set_option maxHeartbeats 16000000 in
theorem nameDeep_any (n z : Int) (w : World) (hm : MaxI w) :
    Calls Tryd.prog 6 #[.int .i64 n, .int .i64 z] w fun e w' => e = .returned (.bool true) ∧ Below w.heap.size w w' := by
  have K0 := Lib.hid (namespeaks_any w hm)
  clear hm
  obtain ⟨m, h15, hm16⟩ := nd_low n 4 15 rfl (by omega)
  obtain ⟨q, h31, hq32⟩ := nd_low z 5 31 rfl (by omega)
  have h15' : bits .and .i64 n 15 = (m : Int) := h15
  have h31' : bits .and .i64 z 31 = (q : Int) := h31
  clear h15 h31
  simp only [Nat.reducePow] at hm16 hq32
  go_enter Tryd.func6, Tryd.ntmps6
  go_wp2_with fail
  refine K0.out.mono ?_
  rintro e w1 ⟨rfl, hb⟩
  have HB1 := Lib.hid hb
  have hO := OwnS.made w1 w1.heap.size (Nat.le_refl _) w1.heap.size rfl
  have hB := (Below.refl w1.heap.size w1).alloc (Nat.le_refl _) (.cells #[] 9)
  have HO := Lib.hid hO
  have HBA := Lib.hid hB
  clear hO hB hb K0
  go_wp2_with fail
  go_loopg [5, 7] m (fun g v i wx => ∃ k : Nat, k + g = m ∧ i = .int .i64 k ∧ (∃ A c, v = .slice A k c ∧ Hid (OwnS wx w1.heap.size (.slice A k c) (List.replicate k nB))) ∧ Hid (Below w1.heap.size w1 wx))
  case atStart => exact ⟨0, by omega, rfl, ⟨_, _, rfl, HO⟩, HBA⟩
  case round =>
    obtain ⟨k, hk, rfl, ⟨A, c, rfl, hO⟩, hB⟩ := hrel
    clear HO HBA
    cases gk with
    | succ g =>
      have j1 : (k : Int) < (m : Int) := by omega
      have hbr := hB.out.alloc hB.out.size (.cells #[.string ⟨#[110]⟩] 9)
      have hbs : w1.heap.size ≤ (wr.alloc (.cells #[.string ⟨#[110]⟩] 9)).heap.size := hbr.size
      have HBR := Lib.hid hbr
      have R2 : Hid (Row (wr.alloc (.cells #[.string ⟨#[110]⟩] 9)) (wr.heap.size + 1) (some ⟨wr.heap.size, 0, none⟩) [.string ⟨#[110]⟩]) := Lib.hid (Row.new wr #[.string ⟨#[110]⟩] 9 (0, 0) wr.heap.size rfl (Nat.lt_succ_self _))
      have HO2 := Lib.hid (World.ownsRow.alloc hO.out (.cells #[.string ⟨#[110]⟩] 9))
      have HL : Hid ((List.replicate k nB).length = k) := Lib.hid List.length_replicate
      have hm63 : k + 1 ≤ maxLen := by simp only [maxLen]; omega
      clear hbr
      go_wp2_with (at_builtin; refine wpl_append_vals strTy rfl (.tmp 22) (.tmp 23) rfl k rfl (by have h := HO2.out; rw [HL.out] at h; exact h) _ _ _ [.string ⟨#[110]⟩] 1 rfl rfl R2.out (by intro u hu; simp at hu; subst hu; rfl) (by omega) hm63 hbs (k + 1) rfl ?_; intro A8 c8 w8 O8 g8 h8)
      have HO8 : Hid (OwnS w8 w1.heap.size (.slice A8 (k + 1) c8) (List.replicate (k + 1) nB)) := Lib.hid (by
        unfold OwnS
        rw [List.replicate_succ', List.map_append, List.length_append, HL.out]
        exact O8)
      have HB8 := Lib.hid (HBR.out.grown g8 hbs fun x hx => (World.ownsRow.lt HO2.out x hx).1)
      clear O8 g8 h8
      go_roundg g
      case measure => omega
      case rel => exact ⟨k + 1, by omega, by go_num, ⟨_, _, rfl, HO8⟩, HB8⟩
    | zero =>
      obtain rfl : k = m := by omega
      have j1 : ¬ (k : Int) < (k : Int) := by omega
      have HB2 := Lib.hid (HB1.out.trans (hB.out.mono HB1.out.size))
      have KJ := Lib.hid (njoin_any _ _ wr hO.out.strs hO.out.flat)
      have hL : (List.replicate k nB).length = k := List.length_replicate
      clear HB1 hB
      go_wp2_with fail
      go_loop [6, 8] (fun s i => ∃ j : Nat, j ≤ q ∧ i = .int .i64 j ∧ s = .string (xB j)) (fun _ i => q - (intOf i).toNat)
      case atStart => exact ⟨0, by omega, rfl, rfl⟩
      case round =>
        obtain ⟨j, hj, rfl, rfl⟩ := hrel
        by_cases hlt : j < q
        · have j2 : (j : Int) < (q : Int) := by omega
          have c1 : ¬ 9223372036854775807 < (xB j).size + 1 := by rw [xB_size]; omega
          have hn := xB_next j
          go_wp2_with fail
          go_round
          case rel => exact ⟨j + 1, by omega, by go_num, rfl⟩
          case measure => simp [intOf]; omega
        · obtain rfl : j = q := by omega
          have j2 : ¬ (j : Int) < (j : Int) := by omega
          clear hlt hj
          have HF := Lib.hid (fit_ns k)
          have HX := Lib.hid (fit_x j)
          have HRX := Lib.hid (right_x j)
          have KR := Lib.hid (right_any (xB j))
          rw [xB_list] at KR
          have c1 : ¬ 9223372036854775807 < 1 + (xB j).size := by rw [xB_size]; omega
          obtain ⟨Q, hQ⟩ : ∃ Q, rightL (List.replicate j 120) = Q := ⟨_, rfl⟩
          rw [hQ] at HX KR HRX
          have K2 : Hid (∀ w2, Below wr.heap.size wr w2 → Calls Tryd.prog 12 #[.slice (some ⟨w2.heap.size, 0, none⟩) 1 1] (w2.alloc (.cells #[.string (xB j)] 9)) fun e w' => JoinOut (w2.alloc (.cells #[.string (xB j)] 9)) (dl [xB j]) e w') := Lib.hid fun w2 _ =>
            njoin_any _ [xB j] _ ⟨_, 1, rfl, Nat.le_refl _, by simp [maxLen], Row.new w2 #[.string (xB j)] 9 (0, 0) w2.heap.size rfl (by simp)⟩ (Flat.at0 _ _ _ _)
          clear hQ
          go_wp2_with fail
          refine KJ.out.mono ?_
          clear KJ
          rintro e w2 (⟨p, rfl, hp, hb⟩ | ⟨rfl, hp, hb⟩)
          · have h6 : (k : Int) ≤ 6 := by
              rw [joinL_fit, HF.out] at hp
              by_cases h : k ≤ 6
              · omega
              · rw [decide_eq_false h] at hp
                cases hp
            have HB3 := Lib.hid (HB2.out.trans (hb.mono HB2.out.size))
            have HB4 := Lib.hid (HB3.out.alloc HB3.out.size (.cells #[.string (xB j)] 9))
            have K3 := Lib.hid (K2.out w2 hb)
            clear K2 hb hp
            go_wp2_with fail
            refine K3.out.mono ?_
            clear K3
            rintro e w3 (⟨q2, rfl, hp2, hb⟩ | ⟨rfl, hp2, hb⟩)
            · have hq2 : Q = true := by
                rw [joinL_fit, HX.out] at hp2
                cases Q with
                | true => rfl
                | false => cases hp2
              subst hq2
              have h2 := HRX.out.symm
              simp only [Bool.and_eq_true, decide_eq_true_eq] at h2
              have k1 : (1 : Int) ≤ (j : Int) := by omega
              have k2 : (j : Int) ≤ 12 := by omega
              obtain rfl : q2 = (⟨#[47]⟩ : ByteArray) ++ xB j := bytes_eq (by
                rw [joinL_fit, HX.out] at hp2
                have h3 := Option.some.inj hp2
                simp [dl, glue] at h3
                rw [← h3]
                simp)
              have d9 : (((⟨#[47]⟩ : ByteArray) ++ xB j).toList == ((⟨#[47]⟩ : ByteArray) ++ xB j).toList) = true := by simp
              have HB5 := Lib.hid (HB4.out.trans (hb.mono HB4.out.size))
              clear hp2 h2 hb HX HRX HF
              go_wp2_with fail
              refine (KR.out _).mono ?_
              rintro e w4 ⟨rfl, hb⟩
              go_wp2_with fail
              go_ret
              exact ⟨by first | rfl | (simp; omega), HB5.out.trans (hb.mono HB5.out.size)⟩
            · have hq2 : Q = false := by
                rw [joinL_fit, HX.out] at hp2
                cases Q with
                | true => cases hp2
                | false => rfl
              subst hq2
              have h2 := HRX.out.symm
              have HB5 := Lib.hid (HB4.out.trans (hb.mono HB4.out.size))
              by_cases hj1 : 1 ≤ j
              · have hj2 : ¬ j ≤ 12 := fun h => by
                  rw [decide_eq_true hj1, decide_eq_true h] at h2
                  cases h2
                have k1 : (1 : Int) ≤ (j : Int) := by omega
                have k2 : ¬ (j : Int) ≤ 12 := by omega
                clear hp2 h2 hb HX HRX HF hj1 hj2
                go_wp2_with fail
                refine (KR.out _).mono ?_
                rintro e w4 ⟨rfl, hb⟩
                go_wp2_with fail
                go_ret
                exact ⟨by first | rfl | (simp; omega), HB5.out.trans (hb.mono HB5.out.size)⟩
              · have k1 : ¬ (1 : Int) ≤ (j : Int) := by omega
                clear hp2 h2 hb HX HRX HF hj1
                go_wp2_with fail
                refine (KR.out _).mono ?_
                rintro e w4 ⟨rfl, hb⟩
                go_wp2_with fail
                go_ret
                exact ⟨by first | rfl | (simp; omega), HB5.out.trans (hb.mono HB5.out.size)⟩
          · have h6 : ¬ (k : Int) ≤ 6 := by
              rw [joinL_fit, HF.out] at hp
              by_cases h : k ≤ 6
              · rw [decide_eq_true h] at hp
                cases hp
              · omega
            have HB3 := Lib.hid (HB2.out.trans (hb.mono HB2.out.size))
            have HB4 := Lib.hid (HB3.out.alloc HB3.out.size (.cells #[.string (xB j)] 9))
            have K3 := Lib.hid (K2.out w2 hb)
            clear K2 hb hp
            go_wp2_with fail
            refine K3.out.mono ?_
            clear K3
            rintro e w3 (⟨q2, rfl, hp2, hb⟩ | ⟨rfl, hp2, hb⟩)
            · have hq2 : Q = true := by
                rw [joinL_fit, HX.out] at hp2
                cases Q with
                | true => rfl
                | false => cases hp2
              subst hq2
              have h2 := HRX.out.symm
              simp only [Bool.and_eq_true, decide_eq_true_eq] at h2
              have k1 : (1 : Int) ≤ (j : Int) := by omega
              have k2 : (j : Int) ≤ 12 := by omega
              obtain rfl : q2 = (⟨#[47]⟩ : ByteArray) ++ xB j := bytes_eq (by
                rw [joinL_fit, HX.out] at hp2
                have h3 := Option.some.inj hp2
                simp [dl, glue] at h3
                rw [← h3]
                simp)
              have d9 : (((⟨#[47]⟩ : ByteArray) ++ xB j).toList == ((⟨#[47]⟩ : ByteArray) ++ xB j).toList) = true := by simp
              have HB5 := Lib.hid (HB4.out.trans (hb.mono HB4.out.size))
              clear hp2 h2 hb HX HRX HF
              go_wp2_with fail
              refine (KR.out _).mono ?_
              rintro e w4 ⟨rfl, hb⟩
              go_wp2_with fail
              go_ret
              exact ⟨by first | rfl | (simp; omega), HB5.out.trans (hb.mono HB5.out.size)⟩
            · have hq2 : Q = false := by
                rw [joinL_fit, HX.out] at hp2
                cases Q with
                | true => cases hp2
                | false => rfl
              subst hq2
              have h2 := HRX.out.symm
              have HB5 := Lib.hid (HB4.out.trans (hb.mono HB4.out.size))
              by_cases hj1 : 1 ≤ j
              · have hj2 : ¬ j ≤ 12 := fun h => by
                  rw [decide_eq_true hj1, decide_eq_true h] at h2
                  cases h2
                have k1 : (1 : Int) ≤ (j : Int) := by omega
                have k2 : ¬ (j : Int) ≤ 12 := by omega
                clear hp2 h2 hb HX HRX HF hj1 hj2
                go_wp2_with fail
                refine (KR.out _).mono ?_
                rintro e w4 ⟨rfl, hb⟩
                go_wp2_with fail
                go_ret
                exact ⟨by first | rfl | (simp; omega), HB5.out.trans (hb.mono HB5.out.size)⟩
              · have k1 : ¬ (1 : Int) ≤ (j : Int) := by omega
                clear hp2 h2 hb HX HRX HF hj1
                go_wp2_with fail
                refine (KR.out _).mono ?_
                rintro e w4 ⟨rfl, hb⟩
                go_wp2_with fail
                go_ret
                exact ⟨by first | rfl | (simp; omega), HB5.out.trans (hb.mono HB5.out.size)⟩
end Go.Proofs.YteihffmenfobaaaDoor


/- The contracts of pack's Join: it answers the bytes, one behind the other, in new memory. Condition: no more than a million bytes. -/
import Derived.Test.YtdmganpblkepfaaPackNum
namespace Go.Proofs.Ytdmganpblkepfaa
open Go.RowKit

theorem flat_take_le (L : List (List UInt8)) (k : Nat) : (L.take k).flatten.length ≤ L.flatten.length := by
  have : L.flatten = (L.take k).flatten ++ (L.drop k).flatten := by rw [← List.flatten_append, List.take_append_drop]
  rw [this, List.length_append]; omega

set_option maxHeartbeats 1000000 in
theorem join_any (v : Value) (L : List (List UInt8)) (w : World) (B : Nat) (hB : B ≤ w.heap.size) (hp : Parts w B v L) (hlen : L.flatten.length ≤ 1000000) :
    Calls Try.prog 34 #[v] w fun e w' => ∃ g c', e = .returned (.slice (some ⟨g, 0, none⟩) L.flatten.length c') ∧ w.heap.size ≤ g ∧ Own 5 w' w.heap.size (.slice (some ⟨g, 0, none⟩) L.flatten.length c') L.flatten ∧ Below w.heap.size w w' := by
  obtain ⟨A, c, vs, rfl, hr, he, hvl⟩ := hp
  unfold maxLen at hvl
  have hfull : L.take vs.length = L := by rw [he.1]; exact List.take_length
  have HF := Lib.hid hfull
  clear hfull
  have hT := flat_take_le L
  obtain ⟨N, hN⟩ : ∃ N, N = L.flatten.length := ⟨_, rfl⟩
  rw [← hN] at hT hlen ⊢
  have HN := Lib.hid hN
  have HT := Lib.hid hT
  clear hN hT
  go_enter Try.func34, Try.ntmps34
  go_wp2
  go_loop [3, 11] (fun z i => ∃ k : Nat, k ≤ vs.length ∧ i = .int .i64 k ∧ z = .int .i64 ((L.take k).flatten.length : Int)) (fun _ i => vs.length - (intOf i).toNat)
  case atStart => exact ⟨0, Nat.zero_le _, rfl, rfl⟩
  case round =>
    obtain ⟨k, hk, rfl, rfl⟩ := hrel
    by_cases hlt : k < vs.length
    · obtain ⟨a, rfl, hab, hcell⟩ := hr.at_ hlt
      obtain ⟨l, hl, Ai, ci, hv, hlc, hcm, hrow⟩ := he.at_ hlt
      rw [hv] at hcell
      have e : (L.take (k + 1)).flatten.length = (L.take k).flatten.length + l.length := by rw [take_snoc L hl, List.flatten_append, List.length_append]; simp
      have hle := HT.out (k + 1)
      obtain ⟨z, hz⟩ : ∃ z, z = (L.take k).flatten.length := ⟨_, rfl⟩
      rw [← hz] at e ⊢
      rw [e] at hle
      have HE := Lib.hid e
      clear hv hl hrow e hz
      unfold maxLen at hcm
      go_wp2
      go_round
      case rel => exact ⟨k + 1, by omega, by go_num, by rw [HE.out]; go_num⟩
      case measure => simp [intOf]; omega
    · obtain rfl : k = vs.length := by omega
      rw [HF.out, ← HN.out]
      have hNi : (0 : Int) ≤ (N : Int) := by omega
      go_wp2_with (at_make; refine wpl_make_room byteTys rfl _ (.tmp 20) rfl _ _ _ N rfl rfl rfl (by omega) (Nat.le_refl w.heap.size) ?_; intro w1 O1 hb1)
      go_loopw [6, 24] (fun u i wr => ∃ k : Nat, k ≤ vs.length ∧ i = .int .i64 k ∧ ∃ g n c', u = .slice (some ⟨g, 0, none⟩) n c' ∧ w.heap.size ≤ g ∧ n = (L.take k).flatten.length ∧ Own 5 wr w.heap.size (.slice (some ⟨g, 0, none⟩) n c') (L.take k).flatten ∧ Below w.heap.size w wr) (fun _ i _ => vs.length - (intOf i).toNat)
      case atStart => exact ⟨0, Nat.zero_le _, rfl, _, _, _, rfl, Nat.le_refl _, rfl, O1, hb1⟩
      case round =>
        rename_i wr
        obtain ⟨k, hk, rfl, g, n, c', rfl, hg, hn, hO, hbr⟩ := hrel
        clear O1 hb1
        have HN2 := Lib.hid hn
        clear hn
        by_cases hlt2 : k < vs.length
        · obtain ⟨a, rfl, hab, hcell⟩ := hr.at_ hlt2
          obtain ⟨l, hl, Ai, ci, hv, hlc, hcm, hrow⟩ := he.at_ hlt2
          have hc2 := (hbr.cell (p := a.add k) (by rw [add_block]; omega)).trans hcell
          rw [hv] at hc2
          have e : (L.take (k + 1)).flatten = (L.take k).flatten ++ l := by rw [take_snoc L hl, List.flatten_append]; simp
          have hle := HT.out (k + 1)
          rw [e, List.length_append, ← HN2.out] at hle
          have DY : Hid (Bytes wr B (.slice Ai l.length ci) l) := Lib.hid (Bytes.keep ⟨Ai, ci, rfl, hlc, hcm, hrow⟩ fun p hp => hbr.cell (by omega))
          have h1 : (L.take k).flatten.length + l.length ≤ 1000000 := by rw [← HN2.out]; omega
          have h2 : (L.take k).flatten.length + l.length = n + l.length := by rw [← HN2.out]
          have H1 := Lib.hid h1
          have H2 := Lib.hid h2
          have HE := Lib.hid e
          have hz := hbr.size
          clear h1 h2 hv hl hrow e hcell
          unfold maxLen at hcm
          go_wp2_with (at_builtin; refine wpl_append_bytes byteTys rfl (.tmp 28) (.tmp 29) rfl rfl hO _ _ _ rfl DY.out H1.out hz (n + l.length) H2.out ?_; intro A7 c7 w7 O7 g7 h7)
          go_roundw
          case rel =>
            have ⟨g', hg'1, hg'2⟩ : ∃ g', A7 = some ⟨g', 0, none⟩ ∧ w.heap.size ≤ g' := by
              rcases h7 with h7 | h7
              · exact ⟨_, (O7.addr' h7).1, (O7.addr' h7).2.1⟩
              · exact ⟨_, (O7.addr' h7).1, (O7.addr' h7).2.1⟩
            subst hg'1
            exact ⟨k + 1, by omega, by go_num, g', n + l.length, c7, rfl, hg'2, by rw [HE.out, List.length_append, H2.out], by rw [HE.out]; exact O7, hbr.trans g7⟩
          case measure => simp [intOf]; omega
        · obtain rfl : k = vs.length := by omega
          rw [HF.out] at hO HN2
          rw [← HN.out] at HN2
          obtain rfl := HN2.out
          go_wp2
          go_ret
          exact ⟨g, c', rfl, hg, hO, hbr⟩
end Go.Proofs.Ytdmganpblkepfaa

/- The walk of InodeReads: it answers true, and changes nothing that was there. No condition. -/
import Derived.Test.YteihffmenfobaaaQInoRefD
import Derived.Test.YteihffmenfobaaaQInoSame
import Derived.Test.YteihffmenfobaaaQInoSpeaks
namespace Go.Proofs.Yteihffmenfobaaa
open Go.RowKit
theorem none_ok {l : List UInt8} {w w' : World} {x : Ending} (hn : inoR l = none) (h : x = .returned (.tuple #[.agg #[.int .i64 0, .int .i64 0, .slice none 0 0], .int .i64 11]) ∧ Below w.heap.size w w') :
    ∃ n, Hid (n = (inoR l).getD ⟨0, 0, []⟩) ∧ ∃ A c, x = .returned (.tuple #[.agg #[.int .i64 n.k, .int .i64 n.z, .slice A n.es.length c], .int .i64 (errR (inoR l))]) ∧ OwnE w' w.heap.size (.slice A n.es.length c) n.es ∧ Below w.heap.size w w' :=
  ⟨⟨0, 0, []⟩, Lib.hid (by rw [hn]; rfl), none, 0, by rw [hn]; exact h.1, OwnE.nil _ _, h.2⟩
theorem refRead_any (v : Value) (l : List UInt8) (w : World) (hv : Bytes w w.heap.size v l) (hl : l.length ≤ 1000) :
    Calls Try.prog 18 #[v] w fun x w' => ∃ n, Hid (n = (inoR l).getD ⟨0, 0, []⟩) ∧ ∃ A c, x = .returned (.tuple #[.agg #[.int .i64 n.k, .int .i64 n.z, .slice A n.es.length c], .int .i64 (errR (inoR l))]) ∧ OwnE w' w.heap.size (.slice A n.es.length c) n.es ∧ Below w.heap.size w w' := by
  match l, hv, hl with
  | [], hv, _ => exact (refRead_short v [] w hv (by simp)).mono fun e w' h => none_ok inoR_nil h
  | [a], hv, _ => exact (refRead_short v [a] w hv (by simp)).mono fun e w' h => none_ok (inoR_one a) h
  | a :: b :: t, hv, hl =>
    by_cases h1 : a.toNat = 1 ∧ t.length = 1
    · obtain ⟨h1, h2⟩ := h1
      obtain ⟨y, rfl⟩ := List.length_eq_one_iff.1 h2
      refine (refRead_file v a b y w hv h1).mono ?_
      rintro e w' ⟨rfl, hb⟩
      have hi := inoR_file a b y h1
      by_cases ho : IN.ok ⟨1, (b.toNat : Int) + 256 * (y.toNat : Int), []⟩
      · rw [if_pos ho] at hi
        exact ⟨⟨1, (b.toNat : Int) + 256 * (y.toNat : Int), []⟩, Lib.hid (by rw [hi]; rfl), none, 0, by rw [hi, FileRes.yes ho]; rfl, OwnE.nil _ _, hb⟩
      · rw [if_neg ho] at hi
        exact none_ok hi ⟨by rw [FileRes.no ho], hb⟩
    · by_cases ha : a.toNat = 2
      · by_cases hb : b.toNat ≤ 8
        · exact refRead_dir v a b t w hv ha hb (by simp at hl; omega)
        · refine (refRead_kind v a b t w hv (.inr (by omega)) h1).mono fun e w' h => none_ok ?_ h
          rw [inoR_dir a b t ha, if_neg]
          rintro ⟨_, _, h3⟩
          have hd : IN.dir ⟨2, 0, (rEs b.toNat t false).1⟩ := h3.elim (fun x => absurd x.1 (show ¬ (2 : Int) = 1 by decide)) id
          have h4 : (rEs b.toNat t false).1.length ≤ 8 := hd.2.2.1
          rw [rEs_len] at h4
          exact hb h4
      · exact (refRead_kind v a b t w hv (.inl ha) h1).mono fun e w' h => none_ok (inoR_kind a b t ha h1) h
theorem Blk.new3' (w : World) (x y z : Value) (t : TypeId) : Blk (w.alloc (.cells #[x, y, z] t)) w.heap.size t [x, y, z] := heap_alloc_new w _
set_option maxRecDepth 100000 in
set_option maxHeartbeats 16000000 in
theorem inodeReads_any (v : Value) (w : World) (hv : ∃ l, Bytes w w.heap.size v l) :
    Calls Try.prog 4 #[v] w fun e w' => e = .returned (.bool true) ∧ Below w.heap.size w w' := by
  obtain ⟨l, h4⟩ := hv
  obtain ⟨A, c, rfl, hc, hm, hr⟩ := id h4
  have HV := Lib.hid h4
  unfold maxLen at hm
  clear h4 hr
  by_cases hl : 1000 < l.length
  · have d1 : (1000 : Int) < (l.length : Int) := by omega
    go_enter Try.func4, Try.ntmps4
    go_wp2_with fail
    refine (inospeaks_any _).mono ?_
    rintro e' w2 ⟨rfl, hb2⟩
    go_wp2
    go_ret
    exact ⟨rfl, hb2⟩
  · have d1 : ¬ (1000 : Int) < (l.length : Int) := by omega
    have HL : Hid (l.length ≤ 1000) := Lib.hid (by omega)
    go_enter Try.func4, Try.ntmps4
    go_wp2_with fail
    refine (inospeaks_any _).mono ?_
    rintro e' w1 ⟨rfl, hb1⟩
    have hb2 := hb1.alloc hb1.size (.cells #[] 5)
    have O2 := Own.made (e := 5) (base := w.heap.size) #[] 0 hb1.size (by simp) rfl w1.heap.size rfl
    have hz2 := hb2.size
    have D2 := Lib.hid (HV.out.below hb2)
    go_wp2_with (at_builtin; refine wpl_append_bytes byteTys rfl (.tmp 15) (.tmp 16) rfl rfl O2 _ _ _ rfl D2.out (by simp; omega) hz2 l.length (by simp) ?_; intro A3 c3 w3 O3 g3 h3; rw [List.nil_append] at O3; have T3 := Lib.hid (hb2.trans g3); have D3 := Lib.hid (O3.bytes (by simp only [maxLen]; omega)); clear O3 g3 h3)
    clear O2 hz2 D2 hb2 hb1
    have KP := Lib.hid (read_any _ l w3 D3.out)
    have KR := Lib.hid (fun w hv => refRead_any (.slice A l.length c) l w hv HL.out)
    have HF := Lib.hid (fun n (h : inoR l = some n) => inoR_fwd h)
    obtain ⟨R, hR⟩ : ∃ R, inoR l = R := ⟨_, rfl⟩
    rw [hR] at KP KR HF
    have HR := Lib.hid hR
    clear hR
    refine KP.out.mono ?_
    rintro e w4 ⟨n, hn, A4, c4, rfl, O4, b4⟩
    obtain ⟨E, hE⟩ : ∃ E, errR R = E := ⟨_, rfl⟩
    rw [hE] at KR ⊢
    have HE := Lib.hid hE
    obtain ⟨NL, hNL⟩ : ∃ NL, n.es.length = NL := ⟨_, rfl⟩
    have HNL := Lib.hid hNL
    have b5 := b4.mono (B' := w3.heap.size) (Nat.le_refl _)
    have D4 := (D3.out.below b4).more b4.size
    have T4 := T3.out.trans (b4.mono T3.out.size)
    have E4 := O4.ents
    rw [hNL] at E4 ⊢
    have b5 := (Below.refl w4.heap.size w4).alloc (Nat.le_refl _) (.cells #[.int .i64 n.k, .int .i64 n.z, .slice A4 NL c4] 24)
    have D5 := Lib.hid ((D4.below b5).more b5.size)
    have T5 := Lib.hid (T4.trans (b5.mono T4.size))
    have E5 := Lib.hid (E4.after b5)
    have B5 := Lib.hid (Blk.new3' w4 (.int .i64 n.k) (.int .i64 n.z) (.slice A4 NL c4) 24)
    have V5 := Lib.hid ((HV.out.below T5.out).more T5.out.size)
    have KR5 := Lib.hid (KR.out _ V5.out)
    clear D4 T4 E4 b5 O4 b4 KP D3 T3 KR hNL hE HV
    go_wp2_with fail
    obtain ⟨W5, hW5⟩ : ∃ W5, W5 = w4.alloc (.cells #[.int .i64 n.k, .int .i64 n.z, .slice A4 NL c4] 24) := ⟨_, rfl⟩
    obtain ⟨g5, hg5⟩ : ∃ g5, g5 = w4.heap.size := ⟨_, rfl⟩
    rw [← hW5] at D5 T5 E5 B5 V5 KR5 ⊢
    rw [← hg5] at B5 ⊢
    clear hW5 hg5
    refine KR5.out.mono ?_
    rintro e w6 ⟨n', hn', A6, c6, rfl, O6, b6⟩
    obtain rfl : n' = n := hn'.out.trans hn.out.symm
    rw [HNL.out]
    have E6' := O6.ents
    rw [HNL.out] at E6'
    have b7 := b6.alloc b6.size (.cells #[.int .i64 n'.k, .int .i64 n'.z, .slice A6 NL c6] 24)
    have b67 := (Below.refl w6.heap.size w6).alloc (Nat.le_refl _) (.cells #[.int .i64 n'.k, .int .i64 n'.z, .slice A6 NL c6] 24)
    have D7 := Lib.hid ((D5.out.below b7).more b7.size)
    have T7 := Lib.hid (T5.out.trans (b7.mono T5.out.size))
    have E7 := Lib.hid (E5.out.after b7)
    have F7 := Lib.hid (E6'.after b67)
    have B7 := Lib.hid (B5.out.after b7)
    have C7 := Lib.hid (Blk.new3' w6 (.int .i64 n'.k) (.int .i64 n'.z) (.slice A6 NL c6) 24)
    have V7 := Lib.hid ((V5.out.below b7).more b7.size)
    have KM := Lib.hid (same_yes n' _ _ _ E7.out F7.out)
    have i1 : (E != E) = false := by simp
    clear E6' O6 b6 b7 b67 KR5 hn' D5 T5 E5 B5 V5
    go_wp2_with (first | (with_reducible refine wpl_seg_load aggI sizeI (.tmp 4) rfl rfl B7.out 0 [.int .i64 n'.k, .int .i64 n'.z, .slice A4 NL c4] rfl rfl rfl ?_) | (with_reducible refine wpl_seg_load aggI sizeI (.tmp 6) rfl rfl C7.out 0 [.int .i64 n'.k, .int .i64 n'.z, .slice A6 NL c6] rfl rfl rfl ?_))
    obtain ⟨W7, hW7⟩ : ∃ W7, W7 = w6.alloc (.cells #[.int .i64 n'.k, .int .i64 n'.z, .slice A6 NL c6] 24) := ⟨_, rfl⟩
    rw [← hW7] at D7 T7 E7 F7 B7 C7 V7 KM ⊢
    clear hW7
    refine KM.out.mono ?_
    rintro e w8 ⟨rfl, b8⟩
    have D8 := Lib.hid ((D7.out.below b8).more b8.size)
    have T8 := Lib.hid (T7.out.trans (b8.mono T7.out.size))
    have E8 := Lib.hid (E7.out.after b8)
    have B8 := Lib.hid (B7.out.after b8)
    have V8 := Lib.hid ((V7.out.below b8).more b8.size)
    have hs1 := str_of D8.out
    have hs2 := str_of V8.out
    obtain ⟨st, hst⟩ : ∃ st : ByteArray, ⟨l.toArray⟩ = st := ⟨_, rfl⟩
    rw [hst] at hs1 hs2
    have HST := Lib.hid hst
    have i2 : (st.toList == st.toList) = true := by simp
    clear b8 KM D7 T7 E7 F7 B7 C7 V7 hst
    cases R with
    | none =>
      obtain rfl : E = 11 := HE.out.symm
      go_wp2_with fail
      go_ret
      exact ⟨rfl, T8.out⟩
    | some m =>
      obtain rfl : E = 0 := HE.out.symm
      obtain rfl : n' = m := hn.out
      obtain ⟨hb, hok⟩ := HF.out n' rfl
      have KW := Lib.hid (write_yes n' _ w8 E8.out hok)
      rw [hb] at KW
      have HBL := Lib.hid hb
      clear hb HF
      go_wp2_with (with_reducible refine wpl_seg_load aggI sizeI (.tmp 4) rfl rfl B8.out 0 [.int .i64 n'.k, .int .i64 n'.z, .slice A4 NL c4] rfl rfl rfl ?_)
      refine KW.out.mono ?_
      rintro e w9 ⟨gw, cw, rfl, Ow, b9⟩
      have hs3 := str_of (Ow.bytes (by have := HL.out; simp only [maxLen]; omega))
      have hs4 := str_of ((V8.out.below b9).more b9.size)
      rw [HST.out] at hs3 hs4
      have T9 := Lib.hid (T8.out.trans (b9.mono T8.out.size))
      clear Ow b9 KW hs1 hs2
      go_wp2_with fail
      go_ret
      exact ⟨by first | rfl | (simp), T9.out⟩
end Go.Proofs.Yteihffmenfobaaa


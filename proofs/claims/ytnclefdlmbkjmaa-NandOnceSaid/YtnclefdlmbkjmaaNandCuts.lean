/- The walk of NandCuts: it answers true, and changes nothing that was there. No condition. -/
import Derived.Test.YtnclefdlmbkjmaaNandDraw
import Derived.Test.YtnclefdlmbkjmaaGreat
import Derived.Test.YtnclefdlmbkjmaaNandAnd
import Derived.Test.YtnclefdlmbkjmaaYields
import Derived.Deep.QuietTactic
import Derived.BigQuiet
namespace Go.Proofs.Ytnclefdlmbkjmaa
open Go.RowKit
theorem u8_byte (k : Int) (h : (Lit.int .u8 k).wf = true) : ∃ b : UInt8, k = ((b.toNat : Nat) : Int) := by
  simp only [Lit.wf, Bool.and_eq_true, IntKind.min, IntKind.max, IntKind.signed, IntKind.bits] at h
  simp at h
  refine ⟨UInt8.ofNat k.toNat, ?_⟩
  rw [UInt8.toNat_ofNat']
  omega
theorem i64_range {z : Int} (h : (Lit.int .i64 z).wf = true) : -9223372036854775808 ≤ z ∧ z < 9223372036854775808 := by
  simp only [Lit.wf, Bool.and_eq_true, IntKind.min, IntKind.max, IntKind.signed, IntKind.bits] at h
  simp at h
  omega
theorem PC.drewN {w : World} {a : At} {n : Int} {cnt : Nat} {off : Bool} (h : PC w a n cnt off) (k : Nat) : PC (w.drewN k) a n cnt off := h.after ⟨rfl, rfl, rfl, Nat.le_refl _, fun _ _ => rfl⟩
set_option maxRecDepth 100000 in
set_option maxHeartbeats 8000000 in
theorem cuts_main (after keep : Int) (A : Option Addr) (c : Nat) (os : List OpV) (w : World) (hs : Script w w.heap.size (.slice A os.length c) os) :
    Calls Try.prog 5 #[.int .i64 after, .int .i64 keep, .slice A os.length c] w fun e w' => e = .returned (.bool true) ∧ Below w.heap.size w w' := by
  have k0 := nandspeaks_any w
  have z := zeroOp
  have hq := and_31 after
  obtain ⟨n, hn⟩ : ∃ n, n = after % 32 := ⟨_, rfl⟩
  have hn2 : 0 ≤ n ∧ n ≤ 31 := by omega
  rw [← hn] at hq
  have HS := Lib.hid hs
  clear hn hs
  go_enter Try.func5, Try.ntmps5
  go_wp2_with ((with_reducible refine k0.mono ?_); rintro e w0 ⟨rfl, b0⟩)
  have kg := great_any A c os w0 (by
    obtain ⟨A', c', e, h1, h2, h3, h4⟩ := HS.out
    refine ⟨A', c', e, h1, h2, fun i o ho => ?_, fun o ho => ?_⟩
    · obtain ⟨p, r1, r2, r3⟩ := h3 i o ho
      exact ⟨p, r1, Nat.lt_of_lt_of_le r2 b0.size, fun j u hu => (b0.cell (by rw [add_block]; exact r2)).trans (r3 j u hu)⟩
    · obtain ⟨q1, q2, q3, q4, q5, q6, q7, q8⟩ := h4 o ho
      obtain ⟨X, x, r1, r2, r3, r4, r5⟩ := q8
      exact ⟨q1, q2, q3, q4, q5, q6, q7, ⟨X, x, r1, r2, r3, (r4.below b0).more b0.size, r5⟩⟩)
  have B0 := Lib.hid b0
  clear b0 k0
  ((with_reducible refine kg.mono ?_); rintro e wg ⟨g, rfl, hg, bg⟩)
  have Bg := Lib.hid (B0.out.trans (bg.mono B0.out.size))
  clear bg kg B0
  cases g
  · obtain ⟨_, hg2⟩ := hg rfl
    have k1 := newpower_any wg
    clear hg hg2
    go_wp2_with ((with_reducible refine k1.mono ?_); rintro e w1 ⟨rfl, P1, b1⟩)
    have k2 := new_any 20 (by omega) wg.heap.size _ w1 P1
    rw [show ((20 : Nat) : Int) = 20 from rfl] at k2
    have hf : At.from ⟨w1.heap.size + 1, w1.heap.size, wg.heap.size, none, none⟩ w.heap.size := At.from_new (Nat.le_trans Bg.out.size b1.size) Bg.out.size
    have B1 := Lib.hid (Bg.out.trans (b1.mono Bg.out.size))
    have HP1 := Lib.hid P1
    clear P1 b1 k1 Bg
    go_wp2_with ((with_reducible refine k2.mono ?_); rintro e w2 ⟨rfl, C2, b2⟩; have c2 := C2.cell.1)
    have B2 : Hid (Below w.heap.size w w2) := Lib.hid (B1.out.trans (b2.mono B1.out.size))
    have P2 := HP1.out.after b2
    have Hf := Lib.hid hf
    have k3 := PC.start C2 P2 n keep hn2
    obtain ⟨a, ha⟩ : ∃ a : At, a = ⟨w1.heap.size + 1, w1.heap.size, wg.heap.size, none, none⟩ := ⟨_, rfl⟩
    have hac : a.c = w1.heap.size + 1 := by rw [ha]
    have hap : a.p = wg.heap.size := by rw [ha]
    rw [← hac, ← hap]
    rw [← ha] at Hf k3
    clear C2 b2 k2 B1 hf hac HP1 P2 ha hap c2 hn2
    go_wp2_with ((with_reducible refine k3.mono ?_); rintro e w4 ⟨rfl, C4, q4⟩)
    have B4 := Lib.hid (Below.chg B2.out q4 Hf.out (Nat.le_refl _))
    have H4 := Lib.hid C4
    clear C4 q4 k3 B2
    go_loopw [39] (fun i wr => ∃ j : Nat, j ≤ os.length ∧ i = .int .i64 j ∧ ∃ cnt off, PC wr a n cnt off ∧ Below w.heap.size w wr) (fun i _ => os.length - (intOf i).toNat)
    case atStart => exact ⟨0, by omega, rfl, 0, false, H4.out, B4.out⟩
    case round =>
      obtain ⟨j, hj, rfl, cnt, off, hC, hb⟩ := hrel
      clear B4 H4
      by_cases hlt : j < os.length
      · obtain ⟨p, rfl, hok, hld⟩ := HS.out.at_ hlt hb
        obtain ⟨o, ho⟩ : ∃ o, o = os[j] := ⟨_, rfl⟩
        rw [← ho] at hok hld
        have hone := OpV.one hok
        obtain ⟨by_, hby⟩ := u8_byte o.by_ hok.by_
        have HBY := Lib.hid hby
        have HL := Lib.hid hld
        have HC := Lib.hid hC
        have HB := Lib.hid hb
        clear hok ho hb hC hld hby
        go_wp2_with (first | (with_reducible refine wpl_oload (.tmp 41) rfl rfl rfl HL.out ?_) | ((with_reducible refine wpl_ostore (.tmp 12) (.tmp 42) rfl rfl (Blk.new _ _ zOp) rfl rfl hone rfl ?_); intro w5 R5 g5 e5))
        have b5 : Below wr.heap.size wr w5 := ((Below.refl _ _).alloc (Nat.le_refl _) _).grown g5 (by simp) (fun k e => by cases e; exact Nat.le_refl _)
        have hgv : ¬ a.all wr.heap.size := fun e => Nat.lt_irrefl _ (HC.out.all_lt e)
        obtain ⟨gv, hgve⟩ : ∃ gv, gv = wr.heap.size := ⟨_, rfl⟩
        have B5 := Lib.hid (HB.out.trans (b5.mono HB.out.size))
        have H5 := Lib.hid (HC.out.after b5)
        rw [← hgve] at hgv R5 ⊢
        have HR5 := Lib.hid R5
        have c0 := H5.out.cell0
        have kc := fun k => ((H5.out.drewN k).count).mono (fun _ _ h => (⟨h.1, h.2.symm⟩ : _ ∧ _ = w5.drewN k))
        have ko := fun k => ((H5.out.drewN k).isOff).mono (fun _ _ h => (⟨h.1, h.2.symm⟩ : _ ∧ _ = w5.drewN k))
        clear g5 e5 b5 HL HB HC hgve hone R5
        go_quiet ((first | (go_at_call 19; exact Calls.quiet_of_same (kc _)) | (go_at_call 16; exact Calls.quiet_of_same (ko _))))
        have b9 : Below w5.heap.size w5 (w5.drewN nq) := ⟨rfl, rfl, rfl, Nat.le_refl _, fun _ _ => rfl⟩
        have B6 := Lib.hid (B5.out.trans (b9.mono B5.out.size))
        have H6 := Lib.hid (H5.out.after b9)
        have R6 := HR5.out.after b9
        obtain ⟨w6, hw6⟩ : ∃ w6, w6 = w5.drewN nq := ⟨_, rfl⟩
        rw [← hw6] at B6 H6 R6 ⊢
        clear hw6 b9 B5 H5 HR5 c0 kc ko
        have kp := lpage_any by_
        rw [← HBY.out] at kp
        go_wp2_with fail
        refine wp_region_held_drew (S := fun w' => Blk w' gv 39 o.row) (by kernel_rfl) R6.drew (fun _ => ?_)
        have R6d := R6.drew
        have H6d := Lib.hid (H6.out.after (Below.refl _ _).drew)
        have B6d := Lib.hid (B6.out.drew)
        refine wpAnyH_take (i := 0) (v := .pointer (some ⟨a.c, 0, none⟩)) rfl (by kernel_rfl) (by kernel_rfl) (by kernel_rfl) (fun _ _ _ h => h) (Or.inl ⟨by kernel_rfl, fun w _ => by go_simp⟩) R6d ?_
        refine wpAnyH_take (i := 1) (v := .pointer (some ⟨gv, 2, none⟩)) rfl (by kernel_rfl) (by kernel_rfl) (by kernel_rfl) (fun _ _ _ h => h) (Or.inl ⟨by kernel_rfl, fun w _ => by go_simp⟩) R6d ?_
        refine wpAnyH_take (i := 2) (v := .int .i64 o.b) rfl (by kernel_rfl) (by kernel_rfl) (by kernel_rfl) (fun _ _ _ h => h) (yields_one (p := ⟨gv, 2, none⟩) int_flat (.tmp 51) (by kernel_rfl) (by kernel_rfl) (by kernel_rfl) (fun _ h => h.cell 2)) R6d ?_
        refine wpAnyH_take (i := 3) (v := .pointer (some ⟨gv, 3, none⟩)) rfl (by kernel_rfl) (by kernel_rfl) (by kernel_rfl) (fun _ _ _ h => h) (Or.inl ⟨by kernel_rfl, fun w _ => by go_simp⟩) R6d ?_
        refine wpAnyH_take (i := 4) (v := .int .i64 o.p) rfl (by kernel_rfl) (by kernel_rfl) (by kernel_rfl) (fun _ _ _ h => h) (yields_one (p := ⟨gv, 3, none⟩) int_flat (.tmp 53) (by kernel_rfl) (by kernel_rfl) (by kernel_rfl) (fun _ h => h.cell 3)) R6d ?_
        refine wpAnyH_take (i := 5) (v := .pointer (some ⟨gv, 6, none⟩)) rfl (by kernel_rfl) (by kernel_rfl) (by kernel_rfl) (fun _ _ _ h => h) (Or.inl ⟨by kernel_rfl, fun w _ => by go_simp⟩) R6d ?_
        refine wpAnyH_take (i := 6) (v := .int .u8 o.by_) rfl (by kernel_rfl) (by kernel_rfl) (by kernel_rfl) (fun _ _ _ h => h) (yields_one (p := ⟨gv, 6, none⟩) byte_flat (.tmp 55) (by kernel_rfl) (by kernel_rfl) (by kernel_rfl) (fun _ h => h.cell 6)) R6d ?_
        refine wpAnyH_ready (rs := [7]) (by kernel_rfl) (by simp) (AllReadyH.cons rfl (fun K hK => ?_) AllReadyH.nil)
        go_simp
        ((with_reducible refine (kp _).mono ?_); rintro e w7 ⟨rfl, b7⟩)
        have B7 := Lib.hid (B6d.out.trans (b7.mono B6d.out.size))
        have H7 := Lib.hid (H6d.out.after b7)
        have R7 := R6d.after b7
        refine hK.out _ _ R7 (fun _ => ?_)
        clear hK K b7 B6d H6d R6d R6 H6 B6
        have k8 := H7.out.program o.b o.p (lpage_length by_)
        refine wpAnyH_ready (rs := [8]) (by kernel_rfl) (by simp) (AllReadyH.cons rfl (fun K hK => ?_) AllReadyH.nil)
        go_simp
        ((with_reducible refine k8.mono ?_); rintro e w8 ⟨r8, cnt8, off8, rfl, C8, hoff8, q8⟩)
        have B8 := Lib.hid (Below.chg B7.out q8 Hf.out (Nat.le_refl _))
        have H8 := Lib.hid C8
        have HO8 := Lib.hid hoff8
        have R8 := R7.chg q8 hgv
        refine hK.out _ _ R8 (fun _ => ?_)
        clear hK K k8 q8 C8 B7 H7 R7 kp hoff8
        refine wpAnyH_ready (rs := [9]) (by kernel_rfl) (by simp) (AllReadyH.cons rfl (fun K hK => ?_) AllReadyH.nil)
        go_simp
        refine hK.out _ _ R8 (fun _ => ?_)
        clear hK K
        refine wpAnyH_done (by kernel_rfl) ?_ _
        have ck : w8.cell? ⟨gv, 0, none⟩ = some (.int .i64 o.k) := R8.cell 0
        have cb : w8.cell? ⟨gv, 2, none⟩ = some (.int .i64 o.b) := R8.cell 2
        have hkk := and_1 o.k
        by_cases hpar : o.k % 2 = 0
        · rw [hpar] at hkk
          clear hpar
          have ke := H8.out.erase o.b
          go_wp2_with fail
          ((with_reducible refine ke.mono ?_); rintro e w9 ⟨r9, cnt9, off9, rfl, C9, hoff9, q9⟩)
          have B9 := Lib.hid (Below.chg B8.out q9 Hf.out (Nat.le_refl _))
          have H9 := Lib.hid C9
          have HO9 := Lib.hid hoff9
          clear C9 q9 hoff9 ke hkk
          have c0 := H9.out.cell0
          obtain ⟨f1, f2, f3, f4⟩ := H9.out.fact
          have kc := H9.out.count
          have ko := H9.out.isOff
          have hw : IntKind.i64.wrap (n + 1) = n + 1 := by rw [IntKind.wrap_i64]; omega
          have d5 : decide (n + 1 < (cnt9 : Int)) = false := by simp; omega
          have HF2 := Lib.hid f2
          clear f1 f2 f3 f4 ck cb R8
          have fin : ∀ (P : Prop), (off = true → r9 = 30 ∧ cnt9 = cnt) → True := fun _ _ => trivial
          have HN : off = true → r9 = 30 ∧ cnt9 = cnt := fun h => by obtain ⟨x1, x2, x3⟩ := HO8.out h; obtain ⟨y1, y2, y3⟩ := HO9.out x3; exact ⟨y1, y2.trans x2⟩
          clear fin
          by_cases hcn : (cnt9 : Int) = n + 1
          · have hoo : off9 = true := by rw [HF2.out, decide_eq_true hcn]
            rw [hoo] at ko
            have d6 : ((cnt9 : Int) == n + 1) = true := by simp [hcn]
            clear HF2 hoo hcn
            cases off
            · clear HN
              go_wp2_with (first | ((with_reducible refine kc.mono ?_); rintro e w' ⟨rfl, rfl⟩) | ((with_reducible refine ko.mono ?_); rintro e w' ⟨rfl, rfl⟩))
              exact ⟨⟨j + 1, by omega, by go_num, _, _, H9.out, B9.out⟩, by simp [intOf]; omega⟩
            · obtain ⟨h30, hcc⟩ := HN rfl
              clear HN
              subst h30 hcc
              go_wp2_with (first | ((with_reducible refine kc.mono ?_); rintro e w' ⟨rfl, rfl⟩) | ((with_reducible refine ko.mono ?_); rintro e w' ⟨rfl, rfl⟩))
              exact ⟨⟨j + 1, by omega, by go_num, _, _, H9.out, B9.out⟩, by simp [intOf]; omega⟩
          · have hoo : off9 = false := by rw [HF2.out, decide_eq_false hcn]
            rw [hoo] at ko
            have d6 : ((cnt9 : Int) == n + 1) = false := by simp [hcn]
            clear HF2 hoo hcn
            cases off
            · clear HN
              go_wp2_with (first | ((with_reducible refine kc.mono ?_); rintro e w' ⟨rfl, rfl⟩) | ((with_reducible refine ko.mono ?_); rintro e w' ⟨rfl, rfl⟩))
              exact ⟨⟨j + 1, by omega, by go_num, _, _, H9.out, B9.out⟩, by simp [intOf]; omega⟩
            · obtain ⟨h30, hcc⟩ := HN rfl
              clear HN
              subst h30 hcc
              go_wp2_with (first | ((with_reducible refine kc.mono ?_); rintro e w' ⟨rfl, rfl⟩) | ((with_reducible refine ko.mono ?_); rintro e w' ⟨rfl, rfl⟩))
              exact ⟨⟨j + 1, by omega, by go_num, _, _, H9.out, B9.out⟩, by simp [intOf]; omega⟩
        · have hp1 : o.k % 2 = 1 := by omega
          rw [hp1] at hkk
          clear hpar hp1
          have c0 := H8.out.cell0
          obtain ⟨f1, f2, f3, f4⟩ := H8.out.fact
          have kc := H8.out.count
          have ko := H8.out.isOff
          have hw : IntKind.i64.wrap (n + 1) = n + 1 := by rw [IntKind.wrap_i64]; omega
          have d5 : decide (n + 1 < (cnt8 : Int)) = false := by simp; omega
          have HF2 := Lib.hid f2
          clear f1 f2 f3 f4 cb R8
          have fin : ∀ (P : Prop), (off = true → r8 = 30 ∧ cnt8 = cnt) → True := fun _ _ => trivial
          have HN : off = true → r8 = 30 ∧ cnt8 = cnt := fun h => by obtain ⟨x1, x2, x3⟩ := HO8.out h; exact ⟨x1, x2⟩
          clear fin
          by_cases hcn : (cnt8 : Int) = n + 1
          · have hoo : off8 = true := by rw [HF2.out, decide_eq_true hcn]
            rw [hoo] at ko
            have d6 : ((cnt8 : Int) == n + 1) = true := by simp [hcn]
            clear HF2 hoo hcn
            cases off
            · clear HN
              go_wp2_with (first | ((with_reducible refine kc.mono ?_); rintro e w' ⟨rfl, rfl⟩) | ((with_reducible refine ko.mono ?_); rintro e w' ⟨rfl, rfl⟩))
              exact ⟨⟨j + 1, by omega, by go_num, _, _, H8.out, B8.out⟩, by simp [intOf]; omega⟩
            · obtain ⟨h30, hcc⟩ := HN rfl
              clear HN
              subst h30 hcc
              go_wp2_with (first | ((with_reducible refine kc.mono ?_); rintro e w' ⟨rfl, rfl⟩) | ((with_reducible refine ko.mono ?_); rintro e w' ⟨rfl, rfl⟩))
              exact ⟨⟨j + 1, by omega, by go_num, _, _, H8.out, B8.out⟩, by simp [intOf]; omega⟩
          · have hoo : off8 = false := by rw [HF2.out, decide_eq_false hcn]
            rw [hoo] at ko
            have d6 : ((cnt8 : Int) == n + 1) = false := by simp [hcn]
            clear HF2 hoo hcn
            cases off
            · clear HN
              go_wp2_with (first | ((with_reducible refine kc.mono ?_); rintro e w' ⟨rfl, rfl⟩) | ((with_reducible refine ko.mono ?_); rintro e w' ⟨rfl, rfl⟩))
              exact ⟨⟨j + 1, by omega, by go_num, _, _, H8.out, B8.out⟩, by simp [intOf]; omega⟩
            · obtain ⟨h30, hcc⟩ := HN rfl
              clear HN
              subst h30 hcc
              go_wp2_with (first | ((with_reducible refine kc.mono ?_); rintro e w' ⟨rfl, rfl⟩) | ((with_reducible refine ko.mono ?_); rintro e w' ⟨rfl, rfl⟩))
              exact ⟨⟨j + 1, by omega, by go_num, _, _, H8.out, B8.out⟩, by simp [intOf]; omega⟩
      · obtain rfl : j = os.length := by omega
        go_wp2_with fail
        go_ret
        exact ⟨rfl, hb⟩
  · go_wp2_with fail
    go_ret
    exact ⟨rfl, Bg.out⟩
end Go.Proofs.Ytnclefdlmbkjmaa

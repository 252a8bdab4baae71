/- The program's chip: what stands where; the contracts of the calls that only look. No condition but that the chip is there. -/
import Derived.Test.YtaafelhjcmgkdaaGreatDoorQNandWr
import Derived.Test.YtaafelhjcmgkdaaGreatDoorQNandA
namespace Go.Proofs.YtaafelhjcmgkdaaGreatDoor
open Go.RowKit
structure Ch where
  bs : List Bk
  out : Bool
  dead : Bool
  dp : Nat
  fp : Int → Bool
  de : Nat
  fe : Int → Bool
  cnt : Nat
/-- where a chip lies: its block, its blocks', its power's, its maps' -/
structure At where
  c : Nat
  g : Nat
  p : Nat
  mp : Option Nat
  me : Option Nat
def Ch.cells (S : Ch) (a : At) (vp ve : Value) : List Value :=
  [.pointer (some ⟨a.p, 0, none⟩), .slice (some ⟨a.g, 0, none⟩) S.bs.length S.bs.length, .bool S.out, .bool S.dead, .int .i64 (S.dp : Int), vp, .int .i64 (S.de : Int), ve, .int .i64 (S.cnt : Int)]
def Ch.live (S : Ch) : Bool := !S.out && !S.dead
structure PChip (w : World) (a : At) (S : Ch) : Prop where
  cells : ∃ vp ve, Blk w a.c 52 (S.cells a vp ve) ∧ Flt w vp a.mp S.dp S.fp ∧ Flt w ve a.me S.de S.fe
  bg : BG w a.g S.bs
  len : 16 ≤ S.bs.length ∧ S.bs.length ≤ 40
  cg : a.c ≠ a.g
  pc : a.p ≠ a.c
  pg : a.p ≠ a.g
  mps : ∀ b, a.mp = some b → b ≠ a.c ∧ b ≠ a.g ∧ b ≠ a.p
  mes : ∀ b, a.me = some b → b ≠ a.c ∧ b ≠ a.g ∧ b ≠ a.p
  mm : ∀ b, a.mp = some b → a.me ≠ some b
/-- few acts so far -/
def Ch.few (S : Ch) (n : Nat) : Prop := S.dp ≤ n ∧ S.de ≤ n ∧ S.cnt ≤ n
/-- the chip's own blocks -/
def At.own (a : At) (k : Nat) : Prop := k = a.c ∨ k = a.g ∨ a.mp = some k ∨ a.me = some k
section
variable {w w' : World} {a : At} {S : Ch}
theorem PChip.chg {T : Nat → Prop} (h : PChip w a S) (hc : Chg w w' T) (hT : ∀ k, a.own k → ¬ T k) : PChip w' a S := by
  obtain ⟨⟨vp, ve, h1, h2, h3⟩, hb, r1, r3, r4, r5, r6, r7, r8⟩ := h
  exact ⟨⟨vp, ve, h1.chg hc (hT _ (.inl rfl)), h2.chg hc (fun b e => hT b (.inr (.inr (.inl e)))), h3.chg hc (fun b e => hT b (.inr (.inr (.inr e))))⟩, hb.chg hc (hT _ (.inr (.inl rfl))), r1, r3, r4, r5, r6, r7, r8⟩
theorem PChip.after (h : PChip w a S) (hb : Below w.heap.size w w') : PChip w' a S := h.chg (T := fun _ => False) (Chg.of_below hb) (fun _ _ => id)
theorem PChip.alloc (h : PChip w a S) (o : Obj) : PChip (w.alloc o) a S := h.after ((Below.refl _ _).alloc (Nat.le_refl _) o)
theorem PChip.drew (h : PChip w a S) : PChip w.drew a S := h.after (Below.refl _ _).drew
theorem PChip.own_lt (h : PChip w a S) : ∀ k, a.own k → k < w.heap.size := fun k hk => by
  obtain ⟨⟨vp, ve, h1, h2, h3⟩, hb, _⟩ := h
  rcases hk with rfl | rfl | e | e
  · exact h1.lt
  · exact hb.lt
  · exact h2.lt k e
  · exact h3.lt k e
theorem PChip.cell (h : PChip w a S) : w.cell? ⟨a.c, 0, none⟩ = some (.pointer (some ⟨a.p, 0, none⟩)) ∧ w.cell? ⟨a.c, 1, none⟩ = some (.slice (some ⟨a.g, 0, none⟩) S.bs.length S.bs.length) ∧ w.cell? ⟨a.c, 2, none⟩ = some (.bool S.out) ∧ w.cell? ⟨a.c, 3, none⟩ = some (.bool S.dead) ∧ w.cell? ⟨a.c, 8, none⟩ = some (.int .i64 (S.cnt : Int)) := by
  obtain ⟨vp, ve, h1, _, _⟩ := h.cells
  exact ⟨h1.cell 0, h1.cell 1, h1.cell 2, h1.cell 3, h1.cell 8⟩
end
theorem live_any (a : At) (S : Ch) (w : World) (h : PChip w a S) : Calls Tryz.prog 65 #[.pointer (some ⟨a.c, 0, none⟩)] w fun e w' => e = .returned (.bool S.live) ∧ w = w' := by
  obtain ⟨_, _, e2, e3, _⟩ := h.cell
  unfold Ch.live
  obtain ⟨o, ho⟩ : ∃ o, o = S.out := ⟨_, rfl⟩
  obtain ⟨d, hd⟩ : ∃ d, d = S.dead := ⟨_, rfl⟩
  rw [← ho] at e2 ⊢
  rw [← hd] at e3 ⊢
  clear h ho hd
  cases o
  · go_enter Tryz.func65, Tryz.ntmps65
    go_wp2
    go_ret
    exact ⟨rfl, rfl⟩
  · go_enter Tryz.func65, Tryz.ntmps65
    go_wp2
    go_ret
    exact ⟨rfl, rfl⟩
theorem lacks_any (a : At) (S : Ch) (b : Int) (w : World) (h : PChip w a S) : Calls Tryz.prog 36 #[.pointer (some ⟨a.c, 0, none⟩), .int .i64 b] w fun e w' => e = .returned (.bool (decide (b < 0 ∨ (S.bs.length : Int) ≤ b))) ∧ w = w' := by
  obtain ⟨_, e1, _, _, _⟩ := h.cell
  clear h
  by_cases c1 : b < 0
  · have d1 : decide (b < 0) = true := by simp [c1]
    rw [decide_eq_true (.inl c1)]
    clear c1
    go_enter Tryz.func36, Tryz.ntmps36
    go_wp2
    go_ret
    exact ⟨rfl, rfl⟩
  · have d1 : decide (b < 0) = false := by simp [c1]
    obtain ⟨d, hd⟩ : ∃ d, d = decide ((S.bs.length : Int) ≤ b) := ⟨_, rfl⟩
    have hh : decide (b < 0 ∨ (S.bs.length : Int) ≤ b) = d := by
      rw [hd]
      by_cases c2 : (S.bs.length : Int) ≤ b
      · rw [decide_eq_true c2, decide_eq_true (.inr c2)]
      · rw [decide_eq_false c2, decide_eq_false (fun h => h.elim c1 c2)]
    rw [hh]
    have hd' := hd.symm
    clear c1 hh hd
    go_enter Tryz.func36, Tryz.ntmps36
    go_wp2
    go_ret
    exact ⟨rfl, rfl⟩
set_option maxHeartbeats 1000000 in
theorem lacksPage_any (a : At) (S : Ch) (b k : Int) (w : World) (h : PChip w a S) : Calls Tryz.prog 66 #[.pointer (some ⟨a.c, 0, none⟩), .int .i64 b, .int .i64 k] w fun e w' => e = .returned (.bool (decide (b < 0 ∨ (S.bs.length : Int) ≤ b ∨ k < 0 ∨ 7 < k))) ∧ w = w' := by
  have k1 := lacks_any a S b w h
  clear h
  by_cases c1 : b < 0 ∨ (S.bs.length : Int) ≤ b
  · rw [decide_eq_true c1] at k1
    rw [decide_eq_true (by omega)]
    clear c1
    go_enter Tryz.func66, Tryz.ntmps66
    go_wp2_with fail
    ((with_reducible refine k1.mono ?_); rintro e w' ⟨rfl, rfl⟩)
    go_wp2
    go_ret
    exact ⟨rfl, rfl⟩
  · rw [decide_eq_false c1] at k1
    by_cases c2 : k < 0
    · have d2 : decide (k < 0) = true := by simp [c2]
      rw [decide_eq_true (by omega)]
      clear c1 c2
      go_enter Tryz.func66, Tryz.ntmps66
      go_wp2_with fail
      ((with_reducible refine k1.mono ?_); rintro e w' ⟨rfl, rfl⟩)
      go_wp2
      go_ret
      exact ⟨rfl, rfl⟩
    · have d2 : decide (k < 0) = false := by simp [c2]
      by_cases c3 : 7 < k
      · have d3 : decide ((8 : Int) ≤ k) = true := by simp; omega
        rw [decide_eq_true (by omega)]
        clear c1 c2 c3
        go_enter Tryz.func66, Tryz.ntmps66
        go_wp2_with fail
        ((with_reducible refine k1.mono ?_); rintro e w' ⟨rfl, rfl⟩)
        go_wp2
        go_ret
        exact ⟨rfl, rfl⟩
      · have d3 : decide ((8 : Int) ≤ k) = false := by simp; omega
        rw [decide_eq_false (by omega)]
        clear c1 c2 c3
        go_enter Tryz.func66, Tryz.ntmps66
        go_wp2_with fail
        ((with_reducible refine k1.mono ?_); rintro e w' ⟨rfl, rfl⟩)
        go_wp2
        go_ret
        exact ⟨rfl, rfl⟩
set_option maxHeartbeats 1000000 in
theorem refuses_any (a : At) (S : Ch) (s : NM.Pwr) (b k : Int) (w : World) (h : PChip w a S) (hp : PPow w a.p s) : Calls Tryz.prog 43 #[.pointer (some ⟨a.c, 0, none⟩), .int .i64 b, .int .i64 k] w fun e w' => e = .returned (.int .i64 (NM.may s.off S.live S.bs.length b k)) ∧ w = w' := by
  have k1 := off_any a.p s w hp
  have k2 := live_any a S w h
  have k3 := lacksPage_any a S b k w h
  obtain ⟨e0, _, _, _, _⟩ := h.cell
  obtain ⟨o, ho⟩ : ∃ o, o = s.off := ⟨_, rfl⟩
  obtain ⟨l, hl⟩ : ∃ l, l = S.live := ⟨_, rfl⟩
  rw [← ho] at k1 ⊢
  rw [← hl] at k2 ⊢
  clear h hp ho hl
  unfold NM.may
  cases o
  · cases l
    · go_enter Tryz.func43, Tryz.ntmps43
      go_wp2_with fail
      ((with_reducible refine k1.mono ?_); rintro e w' ⟨rfl, rfl⟩)
      go_wp2_with fail
      ((with_reducible refine k2.mono ?_); rintro e w' ⟨rfl, rfl⟩)
      go_wp2
      go_ret
      exact ⟨rfl, rfl⟩
    · by_cases c : b < 0 ∨ (S.bs.length : Int) ≤ b ∨ k < 0 ∨ 7 < k
      · rw [decide_eq_true c] at k3
        rw [if_neg (by simp), if_pos rfl, if_pos c]
        clear c
        go_enter Tryz.func43, Tryz.ntmps43
        go_wp2_with fail
        ((with_reducible refine k1.mono ?_); rintro e w' ⟨rfl, rfl⟩)
        go_wp2_with fail
        ((with_reducible refine k2.mono ?_); rintro e w' ⟨rfl, rfl⟩)
        go_wp2_with fail
        ((with_reducible refine k3.mono ?_); rintro e w' ⟨rfl, rfl⟩)
        go_wp2
        go_ret
        exact ⟨rfl, rfl⟩
      · rw [decide_eq_false c] at k3
        rw [if_neg (by simp), if_pos rfl, if_neg c]
        clear c
        go_enter Tryz.func43, Tryz.ntmps43
        go_wp2_with fail
        ((with_reducible refine k1.mono ?_); rintro e w' ⟨rfl, rfl⟩)
        go_wp2_with fail
        ((with_reducible refine k2.mono ?_); rintro e w' ⟨rfl, rfl⟩)
        go_wp2_with fail
        ((with_reducible refine k3.mono ?_); rintro e w' ⟨rfl, rfl⟩)
        go_wp2
        go_ret
        exact ⟨rfl, rfl⟩
  · go_enter Tryz.func43, Tryz.ntmps43
    go_wp2_with fail
    ((with_reducible refine k1.mono ?_); rintro e w' ⟨rfl, rfl⟩)
    go_wp2
    go_ret
    exact ⟨rfl, rfl⟩
end Go.Proofs.YtaafelhjcmgkdaaGreatDoor


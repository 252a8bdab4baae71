/- The contracts of Flip, of the program's chip and of the reference's, and of the reference's Read. No condition but that the chips are there. -/
import Derived.Test.YtjdegfblacbkoaaNandRefN
namespace Go.Proofs.Ytjdegfblacbkoaa
open Go.RowKit
def Ch.flipBad (S : Ch) (b k t : Int) : Prop := b < 0 ∨ (S.bs.length : Int) ≤ b ∨ k < 0 ∨ 7 < k ∨ t < 0 ∨ 2063 < t
instance (S : Ch) (b k t : Int) : Decidable (S.flipBad b k t) := by unfold Ch.flipBad; exact inferInstance
def Ch.flip (S : Ch) (b k t : Int) : Ch × Int := if S.flipBad b k t then (S, 1) else ({ S with bs := putPage S.bs b.toNat k.toNat (NM.fl (pageOf S.bs b.toNat k.toNat) t.toNat) }, 0)
theorem PChip.setBs {w w' : World} {a : At} {S : Ch} (h : PChip w a S) {Bs : List Bk} (hl : Bs.length = S.bs.length) (hB : BG w' a.g Bs) (hg : w.grownBy w' (some a.g)) : PChip w' a { S with bs := Bs } := by
  have hc : Chg w w' (fun j => j = a.g) := Chg.of_grown hg (fun k e => Option.some.inj e)
  obtain ⟨⟨vp, ve, h1, h2, h3⟩, hbg, r1, r3, r4, r5, r6, r7, r8⟩ := h
  refine ⟨⟨vp, ve, ?_, h2.chg hc (fun b e => (r6 b e).2.1), h3.chg hc (fun b e => (r7 b e).2.1)⟩, hB, by show 16 ≤ Bs.length ∧ _; rw [hl]; exact r1, r3, r4, r5, r6, r7, r8⟩
  have e := h1.chg hc (fun e => r3 e)
  unfold Ch.cells at e ⊢
  simp only [hl]
  exact e
set_option maxRecDepth 100000 in
set_option maxHeartbeats 2000000 in
theorem flip_any (a : At) (S : Ch) (b k t : Int) (w : World) (h : PChip w a S) :
    Calls Try.prog 34 #[.pointer (some ⟨a.c, 0, none⟩), .int .i64 b, .int .i64 k, .int .i64 t] w fun e w' => e = .returned (.int .i64 (S.flip b k t).2) ∧ PChip w' a (S.flip b k t).1 ∧ Chg w w' (fun j => j = a.g) := by
  have k1 := lacksPage_any a S b k w h
  by_cases hb : S.flipBad b k t
  · have he : S.flip b k t = (S, 1) := if_pos hb
    rw [he]
    have H := Lib.hid h
    unfold Ch.flipBad at hb
    clear h he
    by_cases c1 : b < 0 ∨ (S.bs.length : Int) ≤ b ∨ k < 0 ∨ 7 < k
    · rw [decide_eq_true c1] at k1
      clear c1 hb
      go_enter Try.func34, Try.ntmps34
      go_wp2_with ((with_reducible refine k1.mono ?_); rintro e w' ⟨rfl, rfl⟩)
      go_ret
      exact ⟨rfl, H.out, Chg.refl _ _⟩
    · rw [decide_eq_false c1] at k1
      by_cases c2 : t < 0
      · have d1 : decide (t < 0) = true := by simp [c2]
        clear c1 c2 hb
        go_enter Try.func34, Try.ntmps34
        go_wp2_with ((with_reducible refine k1.mono ?_); rintro e w' ⟨rfl, rfl⟩)
        go_ret
        exact ⟨rfl, H.out, Chg.refl _ _⟩
      · have d1 : decide (t < 0) = false := by simp; omega
        have d2 : decide ((2064 : Int) ≤ t) = true := by simp; omega
        clear c1 c2 hb
        go_enter Try.func34, Try.ntmps34
        go_wp2_with ((with_reducible refine k1.mono ?_); rintro e w' ⟨rfl, rfl⟩)
        go_ret
        exact ⟨rfl, H.out, Chg.refl _ _⟩
  · have he : S.flip b k t = ({ S with bs := putPage S.bs b.toNat k.toNat (NM.fl (pageOf S.bs b.toNat k.toNat) t.toNat) }, 0) := if_neg hb
    rw [he]
    unfold Ch.flipBad at hb
    obtain ⟨b', rfl⟩ : ∃ b' : Nat, b = (b' : Int) := ⟨b.toNat, by omega⟩
    obtain ⟨k', rfl⟩ : ∃ k' : Nat, k = (k' : Int) := ⟨k.toNat, by omega⟩
    obtain ⟨t', rfl⟩ : ∃ t' : Nat, t = (t' : Int) := ⟨t.toNat, by omega⟩
    rw [decide_eq_false (by omega)] at k1
    have hbl : b' < S.bs.length := by omega
    have hk8 : k' < 8 := by omega
    have ht : t' < 2064 := by omega
    have d1 : decide ((t' : Int) < 0) = false := by simp
    have d2 : decide ((2064 : Int) ≤ (t' : Int)) = false := by simp; omega
    have hlen := h.len
    rw [Int.toNat_natCast, Int.toNat_natCast, Int.toNat_natCast]
    obtain ⟨x, hx⟩ : ∃ x, x = (pageOf S.bs b' k').getD (t' / 8) 0 := ⟨_, rfl⟩
    have c1 := h.cell.2.1
    have c3 := h.bg.pbyte hbl hk8 (i := t' / 8) (by omega) hx
    have f3 := h.bg.free (b' * 2066 + k' * 258 + t' / 8)
    obtain ⟨m, hm, HM⟩ := pflip_byte (b := x.toNat) (i := t') (L := pageOf S.bs b' k') x.toNat_lt (by rw [hx])
    have hs := h.bg.pset hbl hk8 (i := t' / 8) (by omega) m
    have hq8 : t' / 8 < 258 := by omega
    have H := Lib.hid h
    have HS := Lib.hid hs
    clear h hs hb he hx
    go_enter Try.func34, Try.ntmps34
    go_wp2_with ((with_reducible refine k1.mono ?_); rintro e w' ⟨rfl, rfl⟩)
    go_region
    go_wp2
    go_ret
    have hg := grown_setCell w a.g (b' * 2066 + k' * 258 + t' / 8) (.int .u8 ((m.toNat : Nat) : Int))
    have hs := HS.out
    rw [HM.out] at hs
    exact ⟨rfl, H.out.setBs (putPage_length _) hs hg, Chg.of_grown hg (fun k e => Option.some.inj e)⟩
theorem NM.fl_len (L : List UInt8) (i : Nat) : (NM.fl L i).length = L.length := NM.fl_length L i
set_option maxRecDepth 100000 in
set_option maxHeartbeats 2000000 in
theorem refFlip_any (r : RAt) (S : Ch) (b k t : Int) (w : World) (h : RChip w r S) :
    Calls Try.prog 35 #[.pointer (some ⟨r.c, 0, none⟩), .int .i64 b, .int .i64 k, .int .i64 t] w fun e w' => e = .returned (.int .i64 (S.flip b k t).2) ∧ RChip w' r (S.flip b k t).1 ∧ Chg w w' (fun j => j = r.g) := by
  by_cases hb : S.flipBad b k t
  · have he : S.flip b k t = (S, 1) := if_pos hb
    rw [he]
    have H := Lib.hid h
    have c2 := h.rcell.2.1
    unfold Ch.flipBad at hb
    clear h he
    by_cases c1 : b < 0
    · have d1 : decide (b < 0) = true := by simp [c1]
      clear c1 hb
      go_enter Try.func35, Try.ntmps35
      go_wp2_with fail
      go_ret
      exact ⟨rfl, H.out, Chg.refl _ _⟩
    have d1 : decide (b < 0) = false := by simp; omega
    by_cases c3 : (S.bs.length : Int) ≤ b
    · have d2 : decide ((S.bs.length : Int) ≤ b) = true := by simp [c3]
      clear c1 c3 hb
      go_enter Try.func35, Try.ntmps35
      go_wp2_with fail
      go_ret
      exact ⟨rfl, H.out, Chg.refl _ _⟩
    have d2 : decide ((S.bs.length : Int) ≤ b) = false := by simp; omega
    by_cases c4 : k < 0
    · have d3 : decide (k < 0) = true := by simp [c4]
      clear c1 c3 c4 hb
      go_enter Try.func35, Try.ntmps35
      go_wp2_with fail
      go_ret
      exact ⟨rfl, H.out, Chg.refl _ _⟩
    have d3 : decide (k < 0) = false := by simp; omega
    by_cases c5 : 7 < k
    · have d4 : decide (7 < k) = true := by simp [c5]
      clear c1 c3 c4 c5 hb
      go_enter Try.func35, Try.ntmps35
      go_wp2_with fail
      go_ret
      exact ⟨rfl, H.out, Chg.refl _ _⟩
    have d4 : decide (7 < k) = false := by simp; omega
    by_cases c6 : t < 0
    · have d5 : decide (t < 0) = true := by simp [c6]
      clear c1 c3 c4 c5 c6 hb
      go_enter Try.func35, Try.ntmps35
      go_wp2_with fail
      go_ret
      exact ⟨rfl, H.out, Chg.refl _ _⟩
    have d5 : decide (t < 0) = false := by simp; omega
    have d6 : decide (2063 < t) = true := by simp; omega
    clear c1 c3 c4 c5 c6 hb
    go_enter Try.func35, Try.ntmps35
    go_wp2_with fail
    go_ret
    exact ⟨rfl, H.out, Chg.refl _ _⟩
  · have he : S.flip b k t = ({ S with bs := putPage S.bs b.toNat k.toNat (NM.fl (pageOf S.bs b.toNat k.toNat) t.toNat) }, 0) := if_neg hb
    rw [he]
    unfold Ch.flipBad at hb
    obtain ⟨b', rfl⟩ : ∃ b' : Nat, b = (b' : Int) := ⟨b.toNat, by omega⟩
    obtain ⟨k', rfl⟩ : ∃ k' : Nat, k = (k' : Int) := ⟨k.toNat, by omega⟩
    obtain ⟨t', rfl⟩ : ∃ t' : Nat, t = (t' : Int) := ⟨t.toNat, by omega⟩
    have hbl : b' < S.bs.length := by omega
    have hk8 : k' < 8 := by omega
    have hlen := h.len
    obtain ⟨vp, ve, fp, fe, h1, _⟩ := h.cells
    have k1 := refFlip_good r.c r.g _ (pgsOf S.bs) _ S.bs.length (by omega) (pgsOf_length h.ok) rfl rfl b' k' t' hbl (by omega) (by omega) w h1 h.pgs
    rw [pgsOf_getD h.ok hbl hk8, ← pgsOf_put h.ok hbl hk8] at k1
    rw [Int.toNat_natCast, Int.toNat_natCast, Int.toNat_natCast]
    refine k1.mono (fun e w' hh => ⟨hh.1, h.pages (putPage_length _) ?_ ?_ ?_ hh.2.2 hh.2.1, Chg.of_grown hh.2.2 (fun k e => Option.some.inj e)⟩)
    · unfold putPage
      rw [getBk hbl, List.map_set]
      have : (Bk.setPage S.bs[b'] k' (NM.fl (pageOf S.bs b' k') t')).nx = (S.bs.map (·.nx))[b']'(by simpa using hbl) := by simp [Bk.setPage]
      rw [this, List.set_getElem_self]
    · unfold putPage
      rw [getBk hbl, List.map_set]
      have : (Bk.setPage S.bs[b'] k' (NM.fl (pageOf S.bs b' k') t')).bad = (S.bs.map (·.bad))[b']'(by simpa using hbl) := by simp [Bk.setPage]
      rw [this, List.set_getElem_self]
    · intro x hx
      unfold putPage at hx
      rcases List.mem_or_eq_of_mem_set hx with hx | hx
      · exact h.ok x hx
      · rw [hx, getBk hbl]
        exact Bk.setPage_ok (h.ok _ (List.getElem_mem hbl)) k' (by rw [NM.fl_length, pageOf_length h.ok hbl hk8])
theorem refRead_any (r : RAt) (S : Ch) (s : NM.Pwr) (b k : Int) (w : World) (h : RChip w r S) (hp : RPow w r.p s) :
    Calls Try.prog 18 #[.pointer (some ⟨r.c, 0, none⟩), .int .i64 b, .int .i64 k] w fun e w' => e = .returned (.tuple #[.agg (cl (S.readPage (NM.may s.off S.live S.bs.length b k) b k)), .int .i64 (NM.may s.off S.live S.bs.length b k)]) ∧ Below w.heap.size w w' := by
  obtain ⟨vp, ve, fp, fe, h1, _⟩ := h.cells
  have hlen := h.len
  have k1 := refReadE_any r.c r.p r.g _ (pgsOf S.bs) S.dead S.out _ S.bs.length (by omega) (pgsOf_length h.ok) s rfl rfl rfl rfl rfl b k w h1 hp h.pgs
  have hl : (!S.dead && !S.out) = S.live := by unfold Ch.live; cases S.dead <;> cases S.out <;> rfl
  rw [hl] at k1
  have hr : NM.readPage (pgsOf S.bs) (NM.may s.off S.live S.bs.length b k) b k = S.readPage (NM.may s.off S.live S.bs.length b k) b k := by
    unfold NM.readPage Ch.readPage
    by_cases e : NM.may s.off S.live S.bs.length b k = 0
    · obtain ⟨_, _, q1, q2, q3, q4⟩ := may_zero e
      rw [if_pos e, if_pos e, show (8 * b + k).toNat = 8 * b.toNat + k.toNat by omega]
      exact pgsOf_getD h.ok (by omega) (by omega)
    · rw [if_neg e, if_neg e]
  rw [hr] at k1
  exact k1
theorem refLiveS_any (r : RAt) (S : Ch) (w : World) (h : RChip w r S) : Calls Try.prog 14 #[.pointer (some ⟨r.c, 0, none⟩)] w fun e w' => e = .returned (.bool S.live) ∧ w = w' := by
  obtain ⟨vp, ve, fp, fe, h1, _⟩ := h.cells
  have k1 := refLive_any r.c _ S.dead S.out rfl rfl w h1
  have hl : (!S.dead && !S.out) = S.live := by unfold Ch.live; cases S.dead <;> cases S.out <;> rfl
  rw [hl] at k1
  exact k1
end Go.Proofs.Ytjdegfblacbkoaa

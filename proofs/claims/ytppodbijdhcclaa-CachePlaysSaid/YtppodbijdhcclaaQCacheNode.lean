/- Node of the law's source, and Get of a cache, of any key. No condition. -/
import Derived.Test.YtppodbijdhcclaaQCacheSt
import Derived.Test.YtppodbijdhcclaaQCacheNone
import Derived.Test.YtppodbijdhcclaaQConv
namespace Go.Proofs.Ytppodbijdhcclaa
open Go Go.RowKit Go.Maps
set_option maxRecDepth 100000 in
set_option maxHeartbeats 4000000 in
theorem node_yes (s : Nat) (bs : List ByteArray) (th : List Bool) (mo : Int) (k : Nat) (w : World) (hs : Src w s bs th mo) (hk : k < 256) (ht : th.getD k false = true) (hb : (bs.getD k ByteArray.empty).size ≤ 100000) :
    Calls Try.prog 124 #[.pointer (some ⟨s, 0, none⟩), .int .i64 (k : Int)] w fun e w' => ∃ n, Hid ((bs.getD k ByteArray.empty).size = n) ∧ ∃ A c, e = .returned (.tuple #[.slice A n c, .int .i64 0]) ∧ Bytes w' w'.heap.size (.slice A n c) (bs.getD k ByteArray.empty).data.toList ∧ Below w.heap.size w w' := by
  have c1 := hs.there hk
  rw [ht] at c1
  have c2 := hs.body hk
  obtain ⟨b, hB⟩ : ∃ b, b = bs.getD k ByteArray.empty := ⟨_, rfl⟩
  rw [← hB] at hb c2 ⊢
  have d1 : decide ((k : Int) < 0) = false := by simp
  have d2 : decide ((255 : Int) < (k : Int)) = false := by simp; omega
  have d3 : (k : Int) < 256 := by omega
  have d4 : ¬ 256 ≤ k := by omega
  have d5 : ¬ (256 : Int) ≤ (k : Int) := by omega
  obtain ⟨c, X, hrun, h1, h2⟩ := conv_any b (by omega) w
  have HX := Lib.hid (And.intro h1 h2)
  obtain ⟨n, hn⟩ : ∃ n, b.size = n := ⟨_, rfl⟩
  have HN := Lib.hid hn
  rw [hn] at hrun HX
  clear hs ht hB h1 h2 hn hb
  go_enter Try.func124, Try.ntmps124
  go_wp2_with fail
  go_ret2
  exact ⟨n, HN, _, c, rfl, HX.out.2.bytes (fun b h => h.2), HX.out.1⟩
set_option maxRecDepth 100000 in
set_option maxHeartbeats 4000000 in
theorem node_no (s : Nat) (bs : List ByteArray) (th : List Bool) (mo : Int) (k : Int) (w : World) (hs : Src w s bs th mo) (hk : (decide (0 ≤ k ∧ k < 256) && th.getD k.toNat false) = false) :
    Calls Try.prog 124 #[.pointer (some ⟨s, 0, none⟩), .int .i64 k] w fun e w' => e = .returned (.tuple #[.slice none 0 0, .int .i64 61]) ∧ Below w.heap.size w w' := by
  by_cases h0 : k < 0
  · have d1 : decide (k < 0) = true := decide_eq_true h0
    clear hk hs
    go_enter Try.func124, Try.ntmps124
    go_wp2_with fail
    go_ret2
    exact ⟨rfl, Below.refl _ _⟩
  · have d1 : decide (k < 0) = false := decide_eq_false h0
    by_cases h1 : 255 < k
    · have d2 : decide (255 < k) = true := decide_eq_true h1
      clear hk hs
      go_enter Try.func124, Try.ntmps124
      go_wp2_with fail
      go_ret2
      exact ⟨rfl, Below.refl _ _⟩
    · have d2 : decide (255 < k) = false := decide_eq_false h1
      obtain ⟨j, rfl⟩ : ∃ j : Nat, k = (j : Int) := ⟨k.toNat, by omega⟩
      rw [decide_eq_true (by omega), Bool.true_and, Int.toNat_natCast] at hk
      have c1 := hs.there (k := j) (by omega)
      rw [hk] at c1
      have d3 : (j : Int) < 256 := by omega
      have d4 : ¬ 256 ≤ j := by omega
      have d5 : ¬ (256 : Int) ≤ (j : Int) := by omega
      clear hk hs
      go_enter Try.func124, Try.ntmps124
      go_wp2_with fail
      go_ret2
      exact ⟨rfl, Below.refl _ _⟩
theorem meth_node (n : Nat) (a : Addr) (w : World) : (method (n + 1) 26 (.pointer (some a)) "Node").run Try.prog w = .ok (124, .pointer (some a)) w := by kernel_rfl
/-- a node's bytes, plainly -/
def getB (bs : List ByteArray) (th : List Bool) (P : Int → Option CE) (z : Int) : Option (List UInt8) := match P z with
  | some e => if e.gone then none else some e.body
  | none => if (decide (0 ≤ z ∧ z < 256) && th.getD z.toNat false) = true then some (bs.getD z.toNat ByteArray.empty).data.toList else none
def CI.get (i : CI) (P : Int → Option CE) (z : Int) : Option (List UInt8) := getB i.bs i.th P z
theorem get_live (i : CI) (P : Int → Option CE) (z : Int) : (i.get P z).isSome = liveP i.th P z := by
  unfold CI.get getB liveP
  cases P z with
  | none => dsimp only; split <;> simp_all
  | some e => dsimp only; cases e.gone <;> rfl
/-- what Get answers -/
def GetC (w : World) (o : Option (List UInt8)) (e : Ending) (w' : World) : Prop := Below w.heap.size w w' ∧ match o with
  | none => e = .returned (.tuple #[.slice none 0 0, .int .i64 61])
  | some l => ∃ A c, e = .returned (.tuple #[.slice A l.length c, .int .i64 0]) ∧ Own 5 w' w.heap.size (.slice A l.length c) l
set_option maxRecDepth 100000 in
set_option maxHeartbeats 4000000 in
/-- a node that wasn't changed, and is there -/
theorem get_old (q m s N : Nat) (f : Int → Option CV) (D : DataW Value) (bs : List ByteArray) (th : List Bool) (mo : Int) (k : Nat) (w : World) (hq : Cc w q m s) (hm : w.ownsMap Try.prog 3 chR m N D) (hf : MpD D f) (hx : f (k : Int) = none) (hs : Src w s bs th mo) (hk : k < 256) (ht : th.getD k false = true) (hb : (bs.getD k ByteArray.empty).size ≤ 100000) :
    Calls Try.prog 22 #[.pointer (some ⟨q, 0, none⟩), .int .i64 (k : Int)] w fun e w' => GetC w (some (bs.getD k ByteArray.empty).data.toList) e w' := by
  have q1 : w.cell? ⟨q, 1, none⟩ = some (.map (some m)) := Blk.cell hq 1
  have hrun := look_none hm hf (wfC ⟨by omega, by omega⟩) hx
  have B0 := Lib.hid ((Below.refl w.heap.size w).alloc (Nat.le_refl _) (.cells #[.int .i64 0, .bool false, .slice none 0 0] 46))
  have q0 := Blk.cell (Blk.after hq B0.out) 0
  simp only [List.getElem?_cons_zero] at q0
  have ml := meth_node
  have KN := Lib.hid (node_yes s bs th mo k _ (hs.after B0.out) hk ht hb)
  have HBS := Lib.hid hb
  obtain ⟨l, hl⟩ : ∃ l, l = (bs.getD k ByteArray.empty).data.toList := ⟨_, rfl⟩
  have HSZ : Hid ((bs.getD k ByteArray.empty).size = l.length) := Lib.hid (by rw [hl, ← Lib.size_eq])
  rw [← hl] at KN ⊢
  clear hq hm hf hx hs ht hb hl
  go_enter Try.func22, Try.ntmps22
  go_upto_region 7 with ((with_reducible refine KN.out.mono ?_); rintro e w2 ⟨n, hn, A2, c2, rfl, hb2, b2⟩; have HB2 := Lib.hid hb2; have H2 := Lib.hid (B0.out.trans (b2.mono B0.out.size)); have HLN : Hid (l.length = n) := Lib.hid (by rw [← HSZ.out]; exact hn.out); clear KN b2 hb2 hn ml q0)
  have KC := Lib.hid (bclone_any (.slice A2 n c2) l w2 HB2.out (by have := HBS.out; rw [← HSZ.out]; omega))
  rw [HLN.out] at KC
  go_wp2_with ((with_reducible refine KC.out.mono ?_); rintro e w3 ⟨A3, c3, rfl, O3, b3⟩; have HO := Lib.hid O3; have HB := Lib.hid b3; clear KC O3 b3)
  go_ret2
  exact ⟨H2.out.trans (HB.out.mono H2.out.size), A3, c3, by rw [HLN.out]; rfl, by rw [HLN.out]; exact HO.out.lower H2.out.size⟩
set_option maxRecDepth 100000 in
set_option maxHeartbeats 4000000 in
/-- a node that wasn't changed, and isn't there -/
theorem get_gone (q m s N : Nat) (f : Int → Option CV) (D : DataW Value) (bs : List ByteArray) (th : List Bool) (mo : Int) (k : Int) (w : World) (hq : Cc w q m s) (hm : w.ownsMap Try.prog 3 chR m N D) (hf : MpD D f) (hwf : (Lit.int .i64 k).wf = true) (hx : f k = none) (hs : Src w s bs th mo) (hk : (decide (0 ≤ k ∧ k < 256) && th.getD k.toNat false) = false) :
    Calls Try.prog 22 #[.pointer (some ⟨q, 0, none⟩), .int .i64 k] w fun e w' => GetC w none e w' := by
  have q1 : w.cell? ⟨q, 1, none⟩ = some (.map (some m)) := Blk.cell hq 1
  have hrun := look_none hm hf hwf hx
  have B0 := Lib.hid ((Below.refl w.heap.size w).alloc (Nat.le_refl _) (.cells #[.int .i64 0, .bool false, .slice none 0 0] 46))
  have q0 := Blk.cell (Blk.after hq B0.out) 0
  simp only [List.getElem?_cons_zero] at q0
  have ml := meth_node
  have KN := Lib.hid (node_no s bs th mo k _ (hs.after B0.out) hk)
  clear hq hm hf hx hs hwf hk
  go_enter Try.func22, Try.ntmps22
  go_wp2_with ((with_reducible refine KN.out.mono ?_); rintro e w2 ⟨rfl, b2⟩; have H2 := Lib.hid (B0.out.trans (b2.mono B0.out.size)); clear KN b2 ml q0)
  go_ret2
  exact ⟨H2.out, rfl⟩
/-- the source's bodies are no longer than that -/
def CI.small (i : CI) : Prop := ∀ k, (i.bs.getD k ByteArray.empty).size ≤ 100000
/-- Get of any key -/
theorem get_cat (i : CI) (N : Nat) (P : Int → Option CE) (S : Nat → Prop) (k : Int) (w : World) (h : CAt w i N P S) (hsm : i.small) (hP : ∀ z e, P z = some e → e.body.length ≤ 100000) (hwf : (Lit.int .i64 k).wf = true) :
    Calls Try.prog 22 #[.pointer (some ⟨i.q, 0, none⟩), .int .i64 k] w fun e w' => GetC w (i.get P k) e w' := by
  obtain ⟨a1, a2, a3, N0, D, f, a4, a5, a6, a7⟩ := id h
  have h7 := a7 k
  cases hf : f k with
  | none =>
    rw [hf] at h7
    have hp : P k = none := by
      cases hp : P k with
      | none => rfl
      | some e => rw [hp] at h7; cases h7.1
    unfold CI.get getB
    rw [hp]
    dsimp only
    by_cases hk : (decide (0 ≤ k ∧ k < 256) && i.th.getD k.toNat false) = true
    · rw [if_pos hk]
      have hk2 := hk
      rw [Bool.and_eq_true] at hk2
      have hk3 := of_decide_eq_true hk2.1
      obtain ⟨j, rfl⟩ : ∃ j : Nat, k = (j : Int) := ⟨k.toNat, by omega⟩
      rw [Int.toNat_natCast] at hk2 ⊢
      exact get_old i.q i.m i.s N0 f D i.bs i.th i.mo j w a1 a5 a6 hf a2 (by omega) hk2.2 (hsm j)
    · rw [if_neg hk]
      exact get_gone i.q i.m i.s N0 f D i.bs i.th i.mo k w a1 a5 a6 hwf hf a2 (by simpa using hk)
  | some x =>
    cases hp : P k with
    | none => rw [hf, hp] at h7; cases h7.1
    | some e =>
      have hb := h7.2 x e hf hp
      have hg : x.g = e.gone := by
        have := h7.1
        rw [hf, hp] at this
        simpa using this
      refine (get_own i.q i.m i.s N0 f D k x e.body w a1 a5 a6 hf (hb.bytes (fun b hS => (a3 b hS).2)) (hP k e hp)).mono ?_
      rintro en w' ⟨b1, b2⟩
      unfold CI.get getB
      rw [hp]
      dsimp only
      rw [hg] at b2
      refine ⟨b1, ?_⟩
      cases hgg : e.gone with
      | true => rw [hgg] at b2; simpa using b2
      | false => rw [hgg] at b2; simpa using b2
end Go.Proofs.Ytppodbijdhcclaa


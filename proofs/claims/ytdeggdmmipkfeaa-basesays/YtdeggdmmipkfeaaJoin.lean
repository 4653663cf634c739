/- base.join and base.cut answer what the plain functions say; nothing that was there is changed. Conditions: the numbers lie there, each of six bits; no more bytes are cut than there are. -/
import Derived.Test.YtdeggdmmipkfeaaDigits

namespace Go.Proofs.Ytdeggdmmipkfeaa
open Go.RowKit

theorem getD_none (x : List UInt8) (j : Nat) (h : ¬ j < x.length) : x.getD j 0 = 0 := by
  rw [List.getD_eq_getElem?_getD, List.getElem?_eq_none (by omega)]; rfl

theorem quad_lt (x : List UInt8) (i : Nat) (h : ∀ c ∈ x, c.toNat < 64) : quad x i < 16777216 := by
  have hg : ∀ j, (x.getD j 0).toNat < 64 := by
    intro j
    by_cases hj : j < x.length
    · have e : x.getD j 0 = x[j] := by simp [List.getD_eq_getElem?_getD, List.getElem?_eq_getElem hj]
      rw [e]; exact h _ (List.getElem_mem hj)
    · have e : x.getD j 0 = 0 := getD_none x j hj
      rw [e]; decide
  have h0 := hg (4 * i); have h1 := hg (4 * i + 1); have h2 := hg (4 * i + 2); have h3 := hg (4 * i + 3)
  unfold quad
  omega

theorem or64 (a b : Nat) (ha : a < 1000000) (hb : b < 64) : bits BinOp.or IntKind.u64 ((a : Int) * 64) (b : Int) = ((a * 64 + b : Nat) : Int) := by
  have := u64_or_low (a : Int) (b : Int) 64 6 (by decide) (by omega) (by omega) (by omega) (by omega)
  rw [show ((64 : Nat) : Int) = 64 from rfl] at this
  rw [this]
  omega

theorem cell_three (w : World) (v v' v'' : Value) (t : TypeId) : ∀ j x, [v, v', v''][j]? = some x → (w.alloc (.cells #[v, v', v''] t)).cell? ((⟨w.heap.size, 0, none⟩ : Addr).add j) = some x := by
  intro j x hj
  match j, hj with
  | 0, hj => simp at hj; subst hj; simp [Addr.add]
  | 1, hj => simp at hj; subst hj; simp [Addr.add]
  | 2, hj => simp at hj; subst hj; simp [Addr.add]

theorem join_nil (p : Option Addr) (c : Nat) (w : World) :
    Calls Try.prog 18 #[.slice p 0 c] w fun e w' => e = .returned (.slice none 0 0) ∧ w' = w := by
  go_enter Try.func18, Try.ntmps18
  go_wp2
  refine wp_loop_rounds 1 ?_
  rw [rounds_succ]
  go_wp2
  go_ret
  exact ⟨rfl, rfl⟩

set_option maxHeartbeats 2000000 in
theorem join_some (b o c : Nat) (x : List UInt8) (w : World) (hn : x.length ≤ 8000) (h64 : ∀ c ∈ x, c.toNat < 64) (h4 : x.length % 4 = 0) (h0 : x ≠ [])
    (hc : ∀ i, i < x.length → w.cell? ⟨b, o + i, none⟩ = some (.int .u8 ((x.getD i 0).toNat : Int))) :
    Calls Try.prog 18 #[.slice (some ⟨b, o, none⟩) x.length c] w fun e w' => ∃ v, e = .returned v ∧ w'.ownsRow w.heap.size 5 1 v (joinS x).length (bv (joinS x)) ∧ Below w.heap.size w w' := by
  obtain ⟨n, hL⟩ : ∃ n, n = x.length := ⟨_, rfl⟩
  rw [← hL] at hn h4 hc ⊢
  have h1 : 1 ≤ n := by rw [hL]; exact List.length_pos_iff.2 h0
  have hbB : b < w.heap.size := World.block_lt_of_cell? w _ (hc 0 (by omega))
  have HL : Hid (n = x.length) := hL
  clear hL
  obtain ⟨i0, hi, hz0, hz1, hz2⟩ := info_parts info_u8
  obtain ⟨M, hM⟩ : ∃ M, M = n / 4 := ⟨_, rfl⟩
  have hlt64 : ∀ j, (x.getD j 0).toNat < 64 := by
    intro j
    by_cases hj : j < x.length
    · have e : x.getD j 0 = x[j] := by simp [List.getD_eq_getElem?_getD, List.getElem?_eq_getElem hj]
      rw [e]; exact h64 _ (List.getElem_mem hj)
    · have e : x.getD j 0 = 0 := getD_none x j hj
      rw [e]; decide
  go_enter Try.func18, Try.ntmps18
  go_wp2
  go_loopw [3, 10] (fun v i wr => ∃ k : Nat, k ≤ M ∧ i = .int .i64 k ∧ wr.ownsRow w.heap.size 5 1 v (joinTo x k).length (bv (joinTo x k)) ∧ Below w.heap.size w wr)
    (fun _ i _ => M - (intOf i).toNat)
  case atStart => exact ⟨0, Nat.zero_le _, rfl, World.ownsRow_nil _ _ _ _, Below.refl _ _⟩
  case round =>
    obtain ⟨k, hk, rfl, hown, hbel⟩ := hrel
    have hlen := joinTo_length x k
    have hsz := hbel.size
    by_cases hlt : k < M
    · have c0 : wr.cell? ⟨b, o + 4 * k, none⟩ = some (.int .u8 ((x.getD (4 * k) 0).toNat : Int)) := by
        rw [hbel.cell (p := ⟨b, o + 4 * k, none⟩) hbB]; exact hc (4 * k) (by omega)
      have c1 : wr.cell? ⟨b, o + (4 * k + 1), none⟩ = some (.int .u8 ((x.getD (4 * k + 1) 0).toNat : Int)) := by
        rw [hbel.cell (p := ⟨b, o + (4 * k + 1), none⟩) hbB]; exact hc (4 * k + 1) (by omega)
      have c2 : wr.cell? ⟨b, o + (4 * k + 2), none⟩ = some (.int .u8 ((x.getD (4 * k + 2) 0).toNat : Int)) := by
        rw [hbel.cell (p := ⟨b, o + (4 * k + 2), none⟩) hbB]; exact hc (4 * k + 2) (by omega)
      have c3 : wr.cell? ⟨b, o + (4 * k + 3), none⟩ = some (.int .u8 ((x.getD (4 * k + 3) 0).toNat : Int)) := by
        rw [hbel.cell (p := ⟨b, o + (4 * k + 3), none⟩) hbB]; exact hc (4 * k + 3) (by omega)
      have l0 := hlt64 (4 * k); have l1 := hlt64 (4 * k + 1); have l2 := hlt64 (4 * k + 2); have l3 := hlt64 (4 * k + 3)
      have HQ : Hid (joinTo x (k + 1) = joinTo x k ++ bytes3 (quad x k)) := rfl
      have HV : Hid (quad x k = ((((x.getD (4 * k) 0).toNat * 64 + (x.getD (4 * k + 1) 0).toNat) * 64 + (x.getD (4 * k + 2) 0).toNat) * 64 + (x.getD (4 * k + 3) 0).toNat)) := rfl
      generalize (x.getD (4 * k) 0).toNat = a0 at c0 l0 HV
      generalize (x.getD (4 * k + 1) 0).toNat = a1 at c1 l1 HV
      generalize (x.getD (4 * k + 2) 0).toNat = a2 at c2 l2 HV
      generalize (x.getD (4 * k + 3) 0).toNat = a3 at c3 l3 HV
      have g1 := u64_or_zero (a0 : Int) (by omega) (by omega)
      have g2 := or64 a0 a1 (by omega) l1
      obtain ⟨B1, hB1⟩ : ∃ B1, B1 = a0 * 64 + a1 := ⟨_, rfl⟩
      rw [← hB1] at g2 HV
      have b1 : B1 < 4096 := by omega
      have g3 := or64 B1 a2 (by omega) l2
      obtain ⟨B2, hB2⟩ : ∃ B2, B2 = B1 * 64 + a2 := ⟨_, rfl⟩
      rw [← hB2] at g3 HV
      have b2 : B2 < 262144 := by omega
      have g4 := or64 B2 a3 (by omega) l3
      obtain ⟨V, hV⟩ : ∃ V, V = B2 * 64 + a3 := ⟨_, rfl⟩
      rw [← hV] at g4 HV
      have b3 : V < 16777216 := by omega
      clear hB1 hB2 hV
      clear hc hlt64 h64
      go_wp2_with fail
      refine wp_loop_rounds 5 ?_
      rw [rounds_succ]
      go_wp2
      rw [rounds_succ]
      go_wp2
      rw [rounds_succ]
      go_wp2
      rw [rounds_succ]
      go_wp2
      rw [rounds_succ]
      go_wp2_with (at_builtin; refine wpList_append_own _ rfl (.tmp 28) (.tmp 37) 27 rfl w.heap.size 5 i0 (.int .u8 0) 1 1 Try.underlying27 hi hz0 hz1 hz2 rfl (by decide) _ _ _ rfl (hown.alloc _) ⟨wr.heap.size, 0, none⟩ 3 3 [.int .u8 ((V : Int) / 65536), .int .u8 ((V : Int) / 256 % 256), .int .u8 ((V : Int) % 256)] rfl rfl ?c1 ?c2 ?c3 ?c4 ?c5 ?_)
      case c1 => exact cell_three _ _ _ _ _
      case c2 => intro u hu; simp at hu; rcases hu with rfl | rfl | rfl <;> rfl
      case c3 => unfold maxLen; omega
      case c4 => omega
      case c5 => simp; omega
      intro v' w1 hown' hgrow _
      have RB : Below w.heap.size w w1 := push_below hown hbel hsz hgrow
      have R : w1.ownsRow w.heap.size 5 1 v' (joinTo x (k + 1)).length (bv (joinTo x (k + 1))) := by
        rw [HQ.out, HV.out]
        simpa [bv, bytes3, hlen, show ((V : Int) / 65536 % 256) = (V : Int) / 65536 from by omega] using hown'
      clear hown' hgrow hown
      go_wp2
      go_roundw
      case rel => exact ⟨k + 1, by omega, by go_num, R, RB⟩
      case measure => simp [intOf]; omega
    · obtain rfl : k = M := by omega
      have hfin : Hid (joinS x = joinTo x k) := by unfold Hid joinS; rw [← HL.out, ← hM]
      have hno : (n : Int) / 4 ≤ (k : Int) := by omega
      clear hM hlt hc hlt64
      go_wp2
      go_ret
      exact ⟨_, rfl, by rw [hfin.out]; exact hown, hbel⟩

/-- base.join. -/
theorem join_any (p : Option Addr) (n c : Nat) (x : List UInt8) (en : n = x.length) (w : World) (hn : x.length ≤ 8000) (h64 : ∀ c ∈ x, c.toNat < 64) (h4 : x.length % 4 = 0) (hr : BRow w p x) :
    Calls Try.prog 18 #[.slice p n c] w fun e w' => ∃ v, e = .returned v ∧ w'.ownsRow w.heap.size 5 1 v (joinS x).length (bv (joinS x)) ∧ Below w.heap.size w w' := by
  subst en
  by_cases h0 : x = []
  · subst h0
    refine (join_nil p c w).mono ?_
    rintro e w' ⟨rfl, rfl⟩
    exact ⟨_, rfl, World.ownsRow_nil _ _ _ _, Below.refl _ _⟩
  · obtain ⟨b, o, rfl, hc⟩ := hr h0
    exact join_some b o c x w hn h64 h4 h0 hc

theorem cut_done (p : Option Addr) (n c : Nat) (w : World) (hn : n ≤ 100000) (hc : n ≤ c) (hp : p = none → n = 0 ∧ c = 0) :
    Calls Try.prog 17 #[.slice p n c, .int .i64 0] w fun e w' => e = .returned (.tuple #[.slice p n c, .bool true]) ∧ w' = w := by
  cases p with
  | none =>
    obtain ⟨rfl, rfl⟩ := hp rfl
    go_enter Try.func17, Try.ntmps17
    go_wp2
    refine wp_loop_rounds 1 ?_
    rw [rounds_succ]
    go_wp2
    go_ret2
    exact ⟨rfl, rfl⟩
  | some a =>
    clear hp
    have h0 : (0 : Int) ≤ (n : Int) := by omega
    have h1 : (n : Int) ≤ (c : Int) := by omega
    go_enter Try.func17, Try.ntmps17
    go_wp2
    refine wp_loop_rounds 1 ?_
    rw [rounds_succ]
    go_wp2
    go_ret2
    exact ⟨rfl, rfl⟩
end Go.Proofs.Ytdeggdmmipkfeaa

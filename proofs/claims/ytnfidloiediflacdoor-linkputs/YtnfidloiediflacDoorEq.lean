/- slices.Equal at []byte answers whether the two lists of numbers are one; the world is as it was but for draws. Conditions: the cells of both lie there. -/
import Derived.Test.YtnfidloiediflacDoorCommon
import Derived.Test.YtnfidloiediflacDoorEqL
namespace Go.Proofs.YtnfidloiediflacDoor
open Go.RowKit

set_option maxHeartbeats 1000000 in
theorem equalBytes (p1 p2 : Option Addr) (n m c d : Nat) (xs ys : List Int) (w : World) (hn : n ≤ maxLen) (hm : m ≤ maxLen) (h1 : Row .u8 w p1 n xs) (h2 : Row .u8 w p2 m ys) :
    Calls Tryd.prog 9 #[.slice p1 n c, .slice p2 m d] w fun e w' => e = .returned (.bool (decide (xs = ys))) ∧ ∃ q, w' = w.drewN q := by
  unfold maxLen at hn hm
  obtain ⟨hx, r1⟩ := h1
  obtain ⟨hy, r2⟩ := h2
  by_cases hnm : n = m
  · subst hnm
    by_cases h0 : n = 0
    · subst h0
      have exy : xs = ys := by rw [List.eq_nil_of_length_eq_zero hx, List.eq_nil_of_length_eq_zero hy]
      have hfin : decide (xs = ys) = true := by simp [exy]
      rw [hfin]
      clear r1 r2 exy hfin hx hy
      go_enter Tryd.func9, Tryd.ntmps9
      go_wp2
      refine wp_loop_rounds 1 ?_
      rw [rounds_succ]
      go_wp2
      go_ret
      exact ⟨rfl, 0, rfl⟩
    · obtain ⟨b1, o1, rfl, k1⟩ := r1 h0
      obtain ⟨b2, o2, rfl, k2⟩ := r2 h0
      clear r1 r2
      go_enter Tryd.func9, Tryd.ntmps9
      go_wp2
      go_loopg [13] n (fun g s13 wr => ∃ k q : Nat, k ≤ n ∧ n - k ≤ g ∧ s13 = .int .i64 k ∧ wr = w.drewN q ∧ ∀ j, j < k → xs.getD j 0 = ys.getD j 0)
      case atStart => exact ⟨0, 0, Nat.zero_le _, by omega, rfl, rfl, fun j hj => absurd hj (Nat.not_lt_zero _)⟩
      case round =>
        obtain ⟨k, q, hk, hg, rfl, rfl, heq⟩ := hrel
        by_cases hlt : k < n
        · have g1 : w.cell? ⟨b1, o1 + k, none⟩ = some (.int .u8 (xs.getD k 0)) := k1 k hlt
          have g2 : w.cell? ⟨b2, o2 + k, none⟩ = some (.int .u8 (ys.getD k 0)) := k2 k hlt
          have A : Hid (∀ j, j < k → xs.getD j 0 = ys.getD j 0) := heq
          clear heq k1 k2
          generalize hxk : xs.getD k 0 = x at g1
          generalize hyk : ys.getD k 0 = y at g2
          have B : Hid (xs.getD k 0 = x ∧ ys.getD k 0 = y) := ⟨hxk, hyk⟩
          clear hxk hyk
          by_cases hxy : x = y
          · subst hxy
            go_wp2_with fail
            go_quiet (fail)
            go_wp2
            go_roundg (n - (k + 1))
            case measure => omega
            case rel =>
              refine ⟨k + 1, q + nq, by omega, by omega, by go_num, rfl, fun j hj => ?_⟩
              by_cases e : j = k
              · subst e
                rw [B.out.1, B.out.2]
              · exact A.out j (by omega)
          · go_wp2_with fail
            go_quiet (fail)
            go_wp2
            go_ret
            refine ⟨ret_bool ?_, q + nq, World.drewN_drewN _ _ _⟩
            symm
            rw [decide_eq_false_iff_not]
            intro e
            apply hxy
            rw [← B.out.1, ← B.out.2, e]
        · have : k = n := by omega
          subst this
          have hfin : Hid (decide (xs = ys) = true) := by simp [Hid, eq_of_getD hx hy heq]
          clear k1 k2 heq
          go_wp2
          go_ret
          exact ⟨ret_bool hfin.out.symm, q, rfl⟩
  · have hnm' : ¬ (n : Int) = (m : Int) := by omega
    have hfin : decide (xs = ys) = false := by
      rw [decide_eq_false_iff_not]
      intro e
      apply hnm
      rw [← hx, ← hy, e]
    rw [hfin]
    clear r1 r2 hfin
    go_enter Tryd.func9, Tryd.ntmps9
    go_wp2
    go_ret
    exact ⟨rfl, 0, rfl⟩
end Go.Proofs.YtnfidloiediflacDoor

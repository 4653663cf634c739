/- The reference's URLRead is parseU; nothing that was there is changed. -/
import Derived.Test.YtnfidloiediflabDoorRRead2
namespace Go.Proofs.YtnfidloiediflabDoor
open Go.RowKit

set_option maxHeartbeats 2000000 in
set_option maxRecDepth 100000 in
theorem rread_long (s : ByteArray) (hs : s.size ≤ maxLen) (h : 120 < s.size) (w : World) :
    Calls Tryd.prog 11 #[.string s] w fun e w' => e = .returned (.tuple #[zeroU, .int .i64 2]) ∧ Below w.heap.size w w' := by
  unfold maxLen at hs
  have hi : (120 : Int) < (s.size : Int) := by omega
  obtain ⟨W0, hW0⟩ : ∃ W, W = w.alloc (.cells (cellsU E0 false E0 E0 false E0 false E0) 23) := ⟨_, rfl⟩
  have hb0 : Below w.heap.size w W0 := by rw [hW0]; exact (Below.refl _ _).alloc (Nat.le_refl _) _
  have hB0 : W0.heap[w.heap.size]? = some (.cells (cellsU E0 false E0 E0 false E0 false E0) 23) := by rw [hW0]; show (w.heap.push _)[w.heap.size]? = _; simp
  go_enter Tryd.func11, Tryd.ntmps11
  go_wp2_with fail
  rw [← hW0]
  clear hW0
  refine (rbad_any _ _).mono ?_
  rintro e w6 ⟨rfl, hb6⟩
  have hB6 := kept_on hB0 hb6
  have B6 : Below w.heap.size w w6 := hb0.trans (hb6.mono hb0.size)
  clear hb6 hB0 hb0
  obtain ⟨r0, r1, r2, r3, r4, r5, r6, r7, rf⟩ := cells_8 hB6
  go_wp2
  refine bodyPost_ret (v := .tuple #[zeroU, .int .i64 2]) ?_ rfl ⟨rfl, ?_⟩
  · rw [results_cell_tmp rfl]
    go_simp
  · exact ((((((((B6.setCell (Nat.le_refl _) _).setCell (Nat.le_refl _) _).setCell (Nat.le_refl _) _).setCell (Nat.le_refl _) _).setCell (Nat.le_refl _) _).setCell (Nat.le_refl _) _).setCell (Nat.le_refl _) _).setCell (Nat.le_refl _) _)
theorem hostU_eq (sch l : List UInt8) (hq : Bool) (q : List UInt8) (hf : Bool) (f : List UInt8) :
    hostU sch l hq q hf f = ⟨sch, preSS l, if preSS l then smallU (cutH (l.drop 2)).1 else [], if preSS l then (cutH (l.drop 2)).2 else l, hq, q, hf, f⟩ := by
  unfold hostU
  cases preSS l <;> rfl
theorem rix (l : List UInt8) (d : UInt8) (W : World) : Calls Tryd.prog 42 #[.string (bar l), .string ⟨#[d]⟩] W fun e w' => e = .returned (.int .i64 (whereB d l)) ∧ w' = W := by
  have := Tryd.strings_Index_one (bar l) d W
  rw [bar_l, indexByte_where] at this
  exact this
theorem bar_end (l : List UInt8) : bar l ++ ⟨#[47]⟩ = bar (l ++ [47]) := by
  apply ba_inj
  rw [data_app, bar_l, bar_l]
theorem cutH_le (l : List UInt8) : (cutH l).1.length ≤ l.length ∧ (cutH l).2.length ≤ l.length := by
  have := congrArg List.length (cutH_app l)
  rw [List.length_append] at this
  omega
theorem cutH_take (l : List UInt8) : l.take (cutH l).1.length = (cutH l).1 := by
  have := congrArg (List.take (cutH l).1.length) (cutH_app l)
  rw [← this]; simp
/-- The reference's URLRead. -/
theorem rread_any (s : ByteArray) (hs : s.size ≤ maxLen) (w : World) (hM : MaxAt w) :
    Calls Tryd.prog 11 #[.string s] w fun e w' => UPost w (parseU s.data.toList) e w' := by
  by_cases hl : 120 < s.size
  · refine (rread_long s hs hl w).mono ?_
    rintro e w' ⟨rfl, hb⟩
    refine ⟨?_, hb⟩
    unfold parseU
    rw [if_pos (by rw [← Lib.size_eq]; exact hl)]
    rfl
  · have hl' : s.size ≤ 120 := by omega
    obtain ⟨l, hl0⟩ : ∃ l, l = s.data.toList := ⟨_, rfl⟩
    have hsl : s = bar l := by rw [hl0]; rfl
    rw [← hl0]
    subst hsl
    clear hl0
    have hll : l.length ≤ 120 := by rw [← bar_size]; exact hl'
    unfold parseU
    rw [if_neg (by omega)]
    obtain ⟨a1, a2⟩ := cutO_len 35 l
    have X1 := cutAt_of 35 l
    have I1 := rix l 35
    generalize (cutO 35 l).2.2 = F1 at *
    generalize (cutO 35 l).2.1 = R1 at *
    generalize (cutO 35 l).1 = A1 at *
    generalize whereB 35 l = k1 at *
    obtain ⟨b1, b2⟩ := cutO_len 63 A1
    have X2 := cutAt_of 63 A1
    have I2 := rix A1 63
    generalize (cutO 63 A1).2.2 = F2 at *
    generalize (cutO 63 A1).2.1 = R2 at *
    generalize (cutO 63 A1).1 = A2 at *
    generalize whereB 63 A1 = k2 at *
    have I3 := rix (A2 ++ [47]) 47
    rw [where_end, ← bar_end] at I3
    have I4 := rix (cutH A2).1 58
    have hc := cutC_of A2
    have hA2 := cutH_le A2
    have key : ∀ (Xl SCl : List UInt8) (F3 okS : Bool) (RV : Value) (RN : Nat), Xl.length ≤ 120 → SCl.length ≤ 120 →
        ((F3 = false ∧ whereB 58 (cutH A2).1 = -1 ∧ bar Xl = bar A2 ∧ bar SCl = E0) ∨ (F3 = true ∧ ∃ m : Nat, whereB 58 (cutH A2).1 = (m : Int) ∧ m < (bar A2).size ∧ (bar A2).extract (m + 1) (bar A2).size = bar Xl ∧
          (∀ W, Calls Tryd.prog 43 #[.string ((bar A2).extract 0 m)] W fun e w' => e = .returned (.string (bar SCl)) ∧ Below W.heap.size W w') ∧ (okS = false → (bar SCl).data.toList = [] ∨ ((bar SCl).data.toList ≠ [] ∧ ∀ W, Calls Tryd.prog 44 #[.string (bar SCl)] W fun e w' => e = .returned (.bool false) ∧ Below W.heap.size W w')) ∧
          (okS = true → (bar SCl).data.toList ≠ [] ∧ ∀ W, Calls Tryd.prog 44 #[.string (bar SCl)] W fun e w' => e = .returned (.bool true) ∧ Below W.heap.size W w'))) →
        (F3 = true → okS = false → RV = zeroU ∧ RN = 1) →
        ((F3 = false ∨ okS = true) → RN = checkU (hostU SCl Xl F2 R2 F1 R1) ∧ RV = if checkU (hostU SCl Xl F2 R2 F1 R1) = 0 then (ofL (hostU SCl Xl F2 R2 F1 R1)).v else zeroU) →
        Calls Tryd.prog 11 #[.string (bar l)] w fun e w' => e = .returned (.tuple #[RV, .int .i64 (RN : Int)]) ∧ Below w.heap.size w w' := by
      intro Xl SCl F3 okS RV RN hX hSC h3 hB hG
      have hH := cutH_le (Xl.drop 2)
      have hd : (Xl.drop 2).length ≤ 120 := by rw [List.length_drop]; omega
      refine rread_walk (bar l) (bar A1) (bar R1) (bar A2) (bar R2) (bar (cutH A2).1) (bar Xl) (bar SCl) (bar (if preSS Xl then (cutH (Xl.drop 2)).2 else Xl)) (bar (cutH (Xl.drop 2)).1) (bar (if preSS Xl then smallU (cutH (Xl.drop 2)).1 else [])) F1 F2 F3 okS (preSS Xl) k1 k2 (whereB 58 (cutH A2).1) (cutH A2).1.length (cutH (Xl.drop 2)).1.length (checkU (hostU SCl Xl F2 R2 F1 R1)) RV RN w hl' (by rw [bar_size]; omega) (by rw [bar_size]; omega) (by rw [bar_size]; omega) (by rw [ext_take, cutH_take]) X1 X2 (hostAt_of Xl) (by rw [bar_size]; omega) h3 hB ?_ I1 I2 I3 I4 ?_ ?_ ?_
      · intro h
        obtain ⟨g1, g2⟩ := hG h
        refine ⟨g1, ?_⟩
        rw [g2, hostU_eq]
        rfl
      · intro hp W
        have := rix (Xl.drop 2 ++ [47]) 47 W
        rw [where_end, ← bar_end, ← ext_drop] at this
        exact this
      · intro hp W
        rw [hp, if_pos rfl]
        exact rsm_any (bar (cutH (Xl.drop 2)).1) W (by rw [bar_size]; omega)
      · intro W hW
        rw [hostU_eq]
        refine rchk_any (ofL ⟨SCl, preSS Xl, if preSS Xl then smallU (cutH (Xl.drop 2)).1 else [], if preSS Xl then (cutH (Xl.drop 2)).2 else Xl, F2, R2, F1, R1⟩) (short_of _ ?_ ?_ ?_ ?_ ?_) W (hM.below hW)
        · show (bar SCl).size ≤ 120; rw [bar_size]; exact hSC
        · show (bar (if preSS Xl then smallU (cutH (Xl.drop 2)).1 else [])).size ≤ 120
          rw [bar_size]
          split
          · rw [smallU_length]; omega
          · simp
        · show (bar (if preSS Xl then (cutH (Xl.drop 2)).2 else Xl)).size ≤ 120
          rw [bar_size]
          split <;> omega
        · show (bar R2).size ≤ 120; rw [bar_size]; omega
        · show (bar R1).size ≤ 120; rw [bar_size]; omega
    unfold parseA
    cases hC : cutC A2 with
    | none =>
      rw [hC] at hc
      refine (key A2 [] false true _ _ (by omega) (by simp) (Or.inl ⟨rfl, hc, rfl, rfl⟩) (fun h => by cases h) (fun _ => ⟨rfl, rfl⟩)).mono ?_
      rintro e w' h
      exact upost_end (ofL (hostU [] A2 F2 R2 F1 R1)) h
    | some x =>
      rw [hC] at hc
      obtain ⟨i1, i2⟩ := hc
      have hxl := congrArg List.length i2
      rw [List.length_append, List.length_cons] at hxl
      have hsm : (smallU x.1).length = x.1.length := smallU_length _
      have mid : ∀ okS, schemeS (smallU x.1) = okS → _ := fun okS hok => key x.2 (smallU x.1) true okS (if okS then (if checkU (hostU (smallU x.1) x.2 F2 R2 F1 R1) = 0 then (ofL (hostU (smallU x.1) x.2 F2 R2 F1 R1)).v else zeroU) else zeroU) (if okS then checkU (hostU (smallU x.1) x.2 F2 R2 F1 R1) else 1) (by omega) (by omega)
        (Or.inr ⟨rfl, x.1.length, i1, by rw [bar_size]; omega, by rw [ext_drop, i2]; simp, fun W => by
          rw [ext_take, i2, show (x.1 ++ 58 :: x.2).take x.1.length = x.1 from by simp]
          exact rsm_any (bar x.1) W (by rw [bar_size]; omega), fun h => by
          subst h
          by_cases he : (bar (smallU x.1)).data.toList = []
          · exact Or.inl he
          · refine Or.inr ⟨he, fun W => ?_⟩
            have := rscheme_any (bar (smallU x.1)) W (by rw [bar_size]; omega)
            rw [isE_no _ he, Bool.false_or, bar_l, hok] at this
            exact this, fun h => by
          subst h
          have he : (bar (smallU x.1)).data.toList ≠ [] := by
            rw [bar_l]
            intro h0
            rw [h0] at hok
            cases hok
          refine ⟨he, fun W => ?_⟩
          have := rscheme_any (bar (smallU x.1)) W (by rw [bar_size]; omega)
          rw [isE_no _ he, Bool.false_or, bar_l, hok] at this
          exact this⟩) (fun _ h => by subst h; exact ⟨rfl, rfl⟩) (fun h => by
          rcases h with h | h
          · cases h
          · subst h; exact ⟨rfl, rfl⟩)
      cases hok : schemeS (smallU x.1) with
      | false =>
        refine (mid false hok).mono ?_
        rintro e w' ⟨rfl, hb⟩
        show UPost w (if schemeS (smallU x.1) = false then (noUL, 1) else checkedU (hostU (smallU x.1) x.2 F2 R2 F1 R1)) _ w'
        rw [if_pos hok]
        exact ⟨rfl, hb⟩
      | true =>
        refine (mid true hok).mono ?_
        rintro e w' h
        show UPost w (if schemeS (smallU x.1) = false then (noUL, 1) else checkedU (hostU (smallU x.1) x.2 F2 R2 F1 R1)) e w'
        rw [if_neg (by rw [hok]; simp)]
        exact upost_end (ofL (hostU (smallU x.1) x.2 F2 R2 F1 R1)) h
end Go.Proofs.YtnfidloiediflabDoor

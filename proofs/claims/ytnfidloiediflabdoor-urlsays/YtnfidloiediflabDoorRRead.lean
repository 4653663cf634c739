/- The reference's URLRead: its walk; nothing that was there is changed. Condition: the text is not too long. -/
import Derived.Test.YtnfidloiediflabDoorRChk2
import Derived.Test.YtnfidloiediflabDoorUParse2
import Derived.Test.YtnfidloiediflabDoorRAbb
namespace Go.Proofs.YtnfidloiediflabDoor
open Go.RowKit

/-- What strings.Index and the two pieces say of a text that is cut. -/
def CutAt1 (s A R : ByteArray) (F : Bool) (k : Int) : Prop := (F = false ∧ k = -1 ∧ A = s ∧ R = E0) ∨ (F = true ∧ ∃ n : Nat, k = (n : Int) ∧ n < s.size ∧ s.extract 0 n = A ∧ s.extract (n + 1) s.size = R)
/-- The host of what is behind two strokes. -/
def HostAt (X PT H0 H : ByteArray) (pp : Bool) (j : Nat) : Prop := (pp = false ∧ PT = X ∧ H = E0 ∧ (X.size < 2 ∨ (2 ≤ X.size ∧ ((X.extract 0 2).toList == [47, 47]) = false))) ∨ (pp = true ∧ 2 ≤ X.size ∧ ((X.extract 0 2).toList == [47, 47]) = true ∧ 2 + j ≤ X.size ∧ X.extract 2 (2 + j) = H0 ∧ X.extract (2 + j) X.size = PT)

set_option maxHeartbeats 1000000 in
/-- The reference's way to say an error. -/
theorem rbad_any (n : Int) (w : World) :
    Calls Tryd.prog 41 #[.int .i64 n] w fun e w' => e = .returned (.tuple #[zeroU, .int .i64 n]) ∧ Below w.heap.size w w' := by
  go_enter Tryd.func41, Tryd.ntmps41
  go_wp2
  refine bodyPost_ret (v := .tuple #[zeroU, .int .i64 n]) ?_ rfl ⟨rfl, ?_⟩
  · rw [results_cell_tmp rfl]
    go_simp
  · exact (Below.refl _ _).alloc (Nat.le_refl _) _

set_option maxHeartbeats 8000000 in
set_option maxRecDepth 100000 in
theorem rread_walk (s A1 R1 A2 R2 A3 X SC PT H0 H : ByteArray) (F1 F2 F3 okS pp : Bool) (k1 k2 k3 : Int) (sl j n : Nat) (RV : Value) (RN : Nat) (w : World) (hs : s.size ≤ 120) (hA1 : A1.size ≤ 120) (hA2 : A2.size ≤ 120) (hsl : sl ≤ A2.size) (hA3 : A2.extract 0 sl = A3)
    (X1 : Hid (CutAt1 s A1 R1 F1 k1)) (X2 : Hid (CutAt1 A1 A2 R2 F2 k2)) (X4 : Hid (HostAt X PT H0 H pp j)) (hXs : X.size ≤ 120)
    (X3 : Hid ((F3 = false ∧ k3 = -1 ∧ X = A2 ∧ SC = E0) ∨ (F3 = true ∧ ∃ m : Nat, k3 = (m : Int) ∧ m < A2.size ∧ A2.extract (m + 1) A2.size = X ∧
      (∀ W, Calls Tryd.prog 43 #[.string (A2.extract 0 m)] W fun e w' => e = .returned (.string SC) ∧ Below W.heap.size W w') ∧ (okS = false → SC.data.toList = [] ∨ (SC.data.toList ≠ [] ∧ ∀ W, Calls Tryd.prog 44 #[.string SC] W fun e w' => e = .returned (.bool false) ∧ Below W.heap.size W w')) ∧
      (okS = true → SC.data.toList ≠ [] ∧ ∀ W, Calls Tryd.prog 44 #[.string SC] W fun e w' => e = .returned (.bool true) ∧ Below W.heap.size W w'))))
    (HB : Hid (F3 = true → okS = false → RV = zeroU ∧ RN = 1)) (HG : Hid ((F3 = false ∨ okS = true) → RN = n ∧ RV = if n = 0 then .agg (cellsU SC pp H PT F2 R2 F1 R1) else zeroU))
    (CI1 : Hid (∀ W, Calls Tryd.prog 42 #[.string s, .string ⟨#[35]⟩] W fun e w' => e = .returned (.int .i64 k1) ∧ w' = W))
    (CI2 : Hid (∀ W, Calls Tryd.prog 42 #[.string A1, .string ⟨#[63]⟩] W fun e w' => e = .returned (.int .i64 k2) ∧ w' = W))
    (CI3 : Hid (∀ W, Calls Tryd.prog 42 #[.string (A2 ++ ⟨#[47]⟩), .string ⟨#[47]⟩] W fun e w' => e = .returned (.int .i64 (sl : Int)) ∧ w' = W))
    (CI4 : Hid (∀ W, Calls Tryd.prog 42 #[.string A3, .string ⟨#[58]⟩] W fun e w' => e = .returned (.int .i64 k3) ∧ w' = W))
    (CI5 : Hid (pp = true → ∀ W, Calls Tryd.prog 42 #[.string (X.extract 2 X.size ++ ⟨#[47]⟩), .string ⟨#[47]⟩] W fun e w' => e = .returned (.int .i64 (j : Int)) ∧ w' = W))
    (CH : Hid (pp = true → ∀ W, Calls Tryd.prog 43 #[.string H0] W fun e w' => e = .returned (.string H) ∧ Below W.heap.size W w'))
    (CK : Hid (∀ W, Below w.heap.size w W → Calls Tryd.prog 13 #[.agg (cellsU SC pp H PT F2 R2 F1 R1)] W fun e w' => e = .returned (.int .i64 (n : Int)) ∧ Below W.heap.size W w')) :
    Calls Tryd.prog 11 #[.string s] w fun e w' => e = .returned (.tuple #[RV, .int .i64 (RN : Int)]) ∧ Below w.heap.size w w' := by
  have hi : ¬ (120 : Int) < (s.size : Int) := by omega
  have P0 := two_new w 23 (cellsU E0 false E0 E0 false E0 false E0) (cellsU E0 false E0 E0 false E0 false E0)
  go_enter Tryd.func11, Tryd.ntmps11
  go_wp2_with fail
  obtain ⟨W0, hW0⟩ : ∃ W, W = (w.alloc (.cells (cellsU E0 false E0 E0 false E0 false E0) 23)).alloc (.cells (cellsU E0 false E0 E0 false E0 false E0) 23) := ⟨_, rfl⟩
  rw [← hW0] at P0
  rw [← hW0]
  clear hW0
  refine (CI1.out _).mono ?_
  rintro e w1 ⟨rfl, hw1⟩
  subst hw1
  clear CI1
  go_upto_if 22 with fail
  go_cut [0] (fun c wx => c = .string A1 ∧ Two w 23 (cellsU E0 false E0 E0 false E0 false E0) (cellsU E0 false E0 E0 false E0 F1 R1) wx)
  case first =>
    clear X2 X3 X4 HB HG CI2 CI3 CI4 CI5 CH CK
    obtain ⟨c0, c1, c2, c3, c4, c5, c6, c7, cf⟩ := P0.cells
    rcases X1.out with ⟨rfl, rfl, rfl, rfl⟩ | ⟨rfl, m, rfl, hn, e1, e2⟩
    · go_wp2_with fail
      go_meet
      exact ⟨rfl, P0⟩
    · have hni : (0 : Int) ≤ (m : Int) := by omega
      have hn1 : (m : Int) ≤ (s.size : Int) := by omega
      have hn2 : (m : Int) + 1 ≤ (s.size : Int) := by omega
      have hw1 : IntKind.i64.wrap ((m : Int) + 1) = (m : Int) + 1 := wrap_small _ (by omega) (by omega)
      go_wp2_with fail
      go_region
      all_goals (
        go_wp2_with fail
        go_meet
        exact ⟨rfl, ((P0.set6 _).set7 _).drew⟩)
  case rest =>
  obtain ⟨rfl, P1⟩ := hcut
  clear X1 P0
  obtain ⟨c0, c1, c2, c3, c4, c5, c6, c7, cf⟩ := P1.cells
  go_wp2_with fail
  refine (CI2.out _).mono ?_
  rintro e w1 ⟨rfl, hw1⟩
  subst hw1
  clear CI2
  go_upto_if 35 with fail
  go_cut [0] (fun c wx => c = .string A2 ∧ Two w 23 (cellsU E0 false E0 E0 false E0 false E0) (cellsU E0 false E0 E0 F2 R2 F1 R1) wx)
  case first =>
    clear X3 X4 HB HG CI3 CI4 CI5 CH CK
    clear c0 c1 c2 c3 c4 c5 c6 c7 cf
    obtain ⟨c0, c1, c2, c3, c4, c5, c6, c7, cf⟩ := P1.cells
    rcases X2.out with ⟨rfl, rfl, rfl, rfl⟩ | ⟨rfl, m, rfl, hn, e1, e2⟩
    · go_wp2_with fail
      go_meet
      exact ⟨rfl, P1⟩
    · have hni : (0 : Int) ≤ (m : Int) := by omega
      have hn1 : (m : Int) ≤ (A1.size : Int) := by omega
      have hn2 : (m : Int) + 1 ≤ (A1.size : Int) := by omega
      have hw1 : IntKind.i64.wrap ((m : Int) + 1) = (m : Int) + 1 := wrap_small _ (by omega) (by omega)
      go_wp2_with fail
      go_region
      all_goals (
        go_wp2_with fail
        go_meet
        exact ⟨rfl, ((P1.set4 _).set5 _).drew⟩)
  case rest =>
  obtain ⟨rfl, P2⟩ := hcut
  clear X2 P1
  clear c0 c1 c2 c3 c4 c5 c6 c7 cf
  have hcat : ¬ 9223372036854775807 < A2.size + (⟨#[47]⟩ : ByteArray).size := by
    have : (⟨#[47]⟩ : ByteArray).size = 1 := rfl
    omega
  have hsi : (sl : Int) ≤ (A2.size : Int) := by omega
  go_wp2_with fail
  refine (CI3.out _).mono ?_
  rintro e w1 ⟨rfl, hw1⟩
  subst hw1
  clear CI3
  go_wp2_with fail
  refine (CI4.out _).mono ?_
  rintro e w1 ⟨rfl, hw1⟩
  subst hw1
  clear CI4
  go_upto_if 53 with fail
  go_cut [0] (fun c wx => c = .string X ∧ Hid (F3 = false ∨ okS = true) ∧ Two w 23 (cellsU E0 false E0 E0 false E0 false E0) (cellsU SC false E0 E0 F2 R2 F1 R1) wx)
  case first =>
    clear X4 HG CI5 CH CK hcat hsi
    obtain ⟨c0, c1, c2, c3, c4, c5, c6, c7, cf⟩ := P2.cells
    rcases X3.out with ⟨rfl, rfl, rfl, rfl⟩ | ⟨rfl, m, rfl, hn, e2, CS, Cno, Cyes⟩
    · clear X3
      go_wp2_with fail
      go_meet
      exact ⟨rfl, Or.inl (by first | rfl | trivial), P2⟩
    · have hni : (0 : Int) ≤ (m : Int) := by omega
      have hn1 : (m : Int) ≤ (A2.size : Int) := by omega
      have hn2 : (m : Int) + 1 ≤ (A2.size : Int) := by omega
      have hw1 : IntKind.i64.wrap ((m : Int) + 1) = (m : Int) + 1 := wrap_small _ (by omega) (by omega)
      have HCno : Hid (okS = false → _) := Cno
      have HCyes : Hid (okS = true → _) := Cyes
      have HCS : Hid (∀ W, _) := CS
      clear Cno Cyes CS X3
      go_wp2_with fail
      refine (HCS.out _).mono ?_
      rintro e w5 ⟨rfl, hb5⟩
      have P3 := P2.below hb5
      clear c0 c1 c2 c3 c4 c5 c6 c7 cf hb5 P2 HCS
      obtain ⟨c0, c1, c2, c3, c4, c5, c6, c7, cf⟩ := P3.cells
      have Q := P3.set0 (.string SC)
      cases okS with
      | false =>
        have hR := HB.out (by first | rfl | trivial) (by first | rfl | trivial)
        rcases HCno.out (by first | rfl | trivial) with hE | ⟨hE, CB⟩
        · obtain rfl := bempty_yes SC hE
          clear HCno HCyes HB
          go_wp2_with fail
          refine (rbad_any _ _).mono ?_
          rintro e w6 ⟨rfl, hb6⟩
          have Q6 := Q.below hb6
          clear hb6
          obtain ⟨r0, r1, r2, r3, r4, r5, r6, r7, rf⟩ := Q6.cells'
          go_wp2
          refine bodyPost_ret (v := .tuple #[zeroU, .int .i64 1]) ?_ rfl ⟨by rw [hR.1, hR.2]; rfl, ?_⟩
          · rw [results_cell_tmp rfl]
            go_simp
          · exact ((((((((Q6.1.setCell (Nat.le_refl _) _).setCell (Nat.le_refl _) _).setCell (Nat.le_refl _) _).setCell (Nat.le_refl _) _).setCell (Nat.le_refl _) _).setCell (Nat.le_refl _) _).setCell (Nat.le_refl _) _).setCell (Nat.le_refl _) _)
        · have he := bempty_no SC hE
          have HCB : Hid (∀ W, _) := CB
          clear HCno HCyes HB CB
          go_wp2_with fail
          refine (HCB.out _).mono ?_
          rintro e w5b ⟨rfl, hb5b⟩
          replace Q := Q.below hb5b
          clear c0 c1 c2 c3 c4 c5 c6 c7 cf hb5b P3
          obtain ⟨c0, c1, c2, c3, c4, c5, c6, c7, cf⟩ := Q.cells
          go_wp2_with fail
          refine (rbad_any _ _).mono ?_
          rintro e w6 ⟨rfl, hb6⟩
          have Q6 := Q.below hb6
          clear hb6
          obtain ⟨r0, r1, r2, r3, r4, r5, r6, r7, rf⟩ := Q6.cells'
          go_wp2
          refine bodyPost_ret (v := .tuple #[zeroU, .int .i64 1]) ?_ rfl ⟨by rw [hR.1, hR.2]; rfl, ?_⟩
          · rw [results_cell_tmp rfl]
            go_simp
          · exact ((((((((Q6.1.setCell (Nat.le_refl _) _).setCell (Nat.le_refl _) _).setCell (Nat.le_refl _) _).setCell (Nat.le_refl _) _).setCell (Nat.le_refl _) _).setCell (Nat.le_refl _) _).setCell (Nat.le_refl _) _).setCell (Nat.le_refl _) _)
      | true =>
        obtain ⟨hE, CB⟩ := HCyes.out (by first | rfl | trivial)
        have he := bempty_no SC hE
        have HCB : Hid (∀ W, _) := CB
        clear HCno HCyes HB CB
        go_wp2_with fail
        refine (HCB.out _).mono ?_
        rintro e w5b ⟨rfl, hb5b⟩
        replace Q := Q.below hb5b
        clear c0 c1 c2 c3 c4 c5 c6 c7 cf hb5b P3
        go_wp2_with fail
        go_meet
        exact ⟨rfl, Or.inr (by first | rfl | trivial), Q⟩
  case rest =>
  obtain ⟨rfl, hgo, P3⟩ := hcut
  obtain ⟨hRN, hRV⟩ := HG.out hgo.out
  subst hRN
  have HRV : Hid (RV = _) := hRV
  clear HB HG hgo hRV X3 P2
  go_upto_region 18 with fail
  go_cut [83] (fun c wx => c = .bool pp ∧ wx = wc)
  case first =>
    clear HRV CI5 CH CK
    rcases X4.out with ⟨rfl, h1, h2, h3 | ⟨h3, h4⟩⟩ | ⟨rfl, h3, h4, _⟩
    · have hx2 : ¬ (2 : Int) ≤ (X.size : Int) := by omega
      clear X4
      go_wp2_with fail
      go_meet
      exact ⟨rfl, rfl⟩
    · have hx2 : (2 : Int) ≤ (X.size : Int) := by omega
      clear X4
      go_wp2_with fail
      go_meet
      exact ⟨by first | rfl | rw [h4], rfl⟩
    · have hx2 : (2 : Int) ≤ (X.size : Int) := by omega
      clear X4
      go_wp2_with fail
      go_meet
      exact ⟨by first | rfl | rw [h4], rfl⟩
  case rest =>
  obtain ⟨rfl, hwc⟩ := hcut
  subst hwc
  go_upto_if 83 with fail
  go_cut [0] (fun c wx => c = .string PT ∧ Two w 23 (cellsU E0 false E0 E0 false E0 false E0) (cellsU SC pp H E0 F2 R2 F1 R1) wx)
  case first =>
    clear HRV CK
    rcases X4.out with ⟨rfl, rfl, rfl, h3⟩ | ⟨rfl, h3, h4, h5, h6, h7⟩
    · clear X4 CI5 CH h3
      go_wp2_with fail
      go_meet
      exact ⟨rfl, P3⟩
    · have HI : Hid (∀ W, _) := CI5.out (by first | rfl | trivial)
      have HH : Hid (∀ W, _) := CH.out (by first | rfl | trivial)
      clear X4 h4 CI5 CH
      have hx2 : (2 : Int) ≤ (X.size : Int) := by omega
      have hsx : (X.extract 2 X.size).size = X.size - 2 := by simp [ByteArray.size_extract]
      have hcat2 : ¬ 9223372036854775807 < (X.extract 2 X.size).size + (⟨#[47]⟩ : ByteArray).size := by
        have : (⟨#[47]⟩ : ByteArray).size = 1 := rfl
        omega
      have hj1 : (2 : Int) + (j : Int) ≤ (X.size : Int) := by omega
      have hjw : IntKind.i64.wrap ((2 : Int) + (j : Int)) = ((2 + j : Nat) : Int) := by rw [show ((2 + j : Nat) : Int) = (2 : Int) + (j : Int) from by omega]; exact wrap_small _ (by omega) (by omega)
      have hj2 : ((2 + j : Nat) : Int) ≤ (X.size : Int) := by omega
      have hj3 : (2 : Int) ≤ ((2 + j : Nat) : Int) := by omega
      obtain ⟨jj, hjj⟩ : ∃ jj, 2 + j = jj := ⟨_, rfl⟩
      rw [hjj] at hjw hj2 hj3 h6 h7
      obtain ⟨c0, c1, c2, c3, c4, c5, c6, c7, cf⟩ := P3.cells
      go_wp2_with fail
      refine (HI.out _).mono ?_
      rintro e w1 ⟨rfl, hw1⟩
      subst hw1
      clear HI
      go_wp2_with fail
      go_region_with (go_at_call 43; refine (HH.out _).mono ?_; rintro e w5 ⟨rfl, hb5⟩; have P4 := (P3.drew).below hb5; obtain ⟨d0, d1, d2, d3, d4, d5, d6, d7, df⟩ := P4.cells)
      all_goals (
        go_wp2_with fail
        go_meet
        exact ⟨rfl, (P4.set1 _).set2 _⟩)
  case rest =>
  obtain ⟨rfl, P4⟩ := hcut
  clear X4 CI5 CH P3
  obtain ⟨c0, c1, c2, c3, c4, c5, c6, c7, cf⟩ := P4.cells
  have Q1 := P4.set3 (.string PT)
  go_wp2_with fail
  refine (CK.out _ Q1.1).mono ?_
  rintro e w8 ⟨rfl, hb8⟩
  have Q6 := Q1.below hb8
  clear hb8 Q1 P4 CK
  clear c0 c1 c2 c3 c4 c5 c6 c7 cf
  obtain ⟨c0, c1, c2, c3, c4, c5, c6, c7, cf⟩ := Q6.cells
  by_cases h0 : RN = 0
  · subst h0
    have hv := HRV.out
    obtain ⟨r0, r1, r2, r3, r4, r5, r6, r7, rf⟩ := Q6.cells'
    clear HRV
    go_wp2
    refine bodyPost_ret (v := .tuple #[.agg (cellsU SC pp H PT F2 R2 F1 R1), .int .i64 0]) ?_ rfl ⟨by rw [hv]; rfl, ?_⟩
    · rw [results_cell_tmp rfl]
      go_simp
    · exact ((((((((Q6.1.setCell (Nat.le_refl _) _).setCell (Nat.le_refl _) _).setCell (Nat.le_refl _) _).setCell (Nat.le_refl _) _).setCell (Nat.le_refl _) _).setCell (Nat.le_refl _) _).setCell (Nat.le_refl _) _).setCell (Nat.le_refl _) _)
  · have hn0 : ((RN : Int) == 0) = false := by rw [beq_eq_false_iff_ne]; omega
    have hv := HRV.out
    rw [if_neg h0] at hv
    clear HRV
    go_wp2_with fail
    refine (rbad_any _ _).mono ?_
    rintro e w9 ⟨rfl, hb9⟩
    replace Q6 := Q6.below hb9
    clear hb9 c0 c1 c2 c3 c4 c5 c6 c7 cf
    obtain ⟨r0, r1, r2, r3, r4, r5, r6, r7, rf⟩ := Q6.cells'
    go_wp2
    refine bodyPost_ret (v := .tuple #[zeroU, .int .i64 (RN : Int)]) ?_ rfl ⟨by rw [hv], ?_⟩
    · rw [results_cell_tmp rfl]
      go_simp
    · exact ((((((((Q6.1.setCell (Nat.le_refl _) _).setCell (Nat.le_refl _) _).setCell (Nat.le_refl _) _).setCell (Nat.le_refl _) _).setCell (Nat.le_refl _) _).setCell (Nat.le_refl _) _).setCell (Nat.le_refl _) _).setCell (Nat.le_refl _) _)
end Go.Proofs.YtnfidloiediflabDoor

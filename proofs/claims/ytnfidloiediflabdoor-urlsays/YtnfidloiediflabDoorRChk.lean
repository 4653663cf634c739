/- The reference's CheckURL: what the plain function says; nothing that was there is changed. Condition: the texts are no longer than a text can be. -/
import Derived.Test.YtnfidloiediflabDoorURTx
import Derived.Deep.RegionHeld3
import Derived.Deep.DeepCutAuto
namespace Go.Proofs.YtnfidloiediflabDoor
open Go.RowKit

set_option maxHeartbeats 4000000 in
set_option maxRecDepth 100000 in
theorem rchk_walk (us uh up uq uf T P0 : ByteArray) (uhh uhq uhf : Bool) (b0 b1 b2 b3 b4 bn p1 p2 cc eh eq ef eu es : Bool) (n : Nat) (hm : us.size ≤ maxLen ∧ uh.size ≤ maxLen ∧ up.size ≤ maxLen ∧ uq.size ≤ maxLen ∧ uf.size ≤ maxLen) (w : World) (R : Nat)
    (hlong : (120 < us.size ∨ 120 < uh.size ∨ 120 < up.size ∨ 120 < uq.size ∨ 120 < uf.size) → R = 2)
    (hshort : (us.size ≤ 120 ∧ uh.size ≤ 120 ∧ up.size ≤ 120 ∧ uq.size ≤ 120 ∧ uf.size ≤ 120) → (R = if (b0 && (b1 && (b2 && (b3 && b4)))) = false then 1 else if bn = true then 4 else if (if uhh then !eu && !p1 else p2 || (es && cc)) = true then 4 else if 120 < T.size then 2 else 0) ∧ T.size ≤ 1000 ∧ bn = ((!eh && !uhh) || (!eq && !uhq) || (!ef && !uhf)) ∧ eh = uh.data.toList.isEmpty ∧ eq = uq.data.toList.isEmpty ∧ ef = uf.data.toList.isEmpty ∧ eu = up.data.toList.isEmpty ∧ es = us.data.toList.isEmpty
      ∧ (∀ W, Calls Tryd.prog 44 #[.string us] W fun e w' => e = .returned (.bool b0) ∧ Below W.heap.size W w')
      ∧ (∀ W, Calls Tryd.prog 48 #[.string uh, .int .u8 33, .int .u8 126, .string ⟨#[34, 60, 62, 92, 94, 96, 123, 124, 125, 47, 63, 35, 65, 66, 67, 68, 69, 70, 71, 72, 73, 74, 75, 76, 77, 78, 79, 80, 81, 82, 83, 84, 85, 86, 87, 88, 89, 90]⟩] W fun e w' => e = .returned (.bool b1) ∧ w' = W)
      ∧ (∀ W, Calls Tryd.prog 48 #[.string up, .int .u8 33, .int .u8 126, .string ⟨#[34, 60, 62, 92, 94, 96, 123, 124, 125, 63, 35]⟩] W fun e w' => e = .returned (.bool b2) ∧ w' = W)
      ∧ (∀ W, Calls Tryd.prog 48 #[.string uq, .int .u8 33, .int .u8 126, .string ⟨#[34, 60, 62, 92, 94, 96, 123, 124, 125, 35]⟩] W fun e w' => e = .returned (.bool b3) ∧ w' = W)
      ∧ (∀ W, Calls Tryd.prog 48 #[.string uf, .int .u8 33, .int .u8 126, .string ⟨#[34, 60, 62, 92, 94, 96, 123, 124, 125, 35]⟩] W fun e w' => e = .returned (.bool b4) ∧ w' = W)
      ∧ (∀ W, Calls Tryd.prog 20 #[.string up, .string ⟨#[47]⟩] W fun e w' => e = .returned (.bool p1) ∧ w' = W)
      ∧ (∀ W, Calls Tryd.prog 20 #[.string up, .string ⟨#[47, 47]⟩] W fun e w' => e = .returned (.bool p2) ∧ w' = W)
      ∧ (∀ W, Below w.heap.size w W → Calls Tryd.prog 22 #[.string up, .string ⟨#[47]⟩] W fun e w' => e = .returned (.slice (some ⟨W.heap.size, 0, none⟩) (n + 1) (n + 1)) ∧ Below W.heap.size W w' ∧ w'.cell? ⟨W.heap.size, 0, none⟩ = some (.string P0) ∧ w'.frozen? ⟨W.heap.size, 0, none⟩ = false)
      ∧ (∀ W, Calls Tryd.prog 49 #[.string P0, .string ⟨#[58]⟩] W fun e w' => e = .returned (.bool cc) ∧ w' = W)
      ∧ (∀ W, Calls Tryd.prog 16 #[.agg #[.string us, .bool uhh, .string uh, .string up, .bool uhq, .string uq, .bool uhf, .string uf]] W fun e w' => e = .returned (.string T) ∧ Below W.heap.size W w')) :
    Calls Tryd.prog 13 #[.agg #[.string us, .bool uhh, .string uh, .string up, .bool uhq, .string uq, .bool uhf, .string uf]] w fun e w' => e = .returned (.int .i64 (R : Int)) ∧ Below w.heap.size w w' := by
  unfold maxLen at hm
  obtain ⟨m0, m1, m2, m3, m4⟩ := hm
  have HL : Hid ((120 < us.size ∨ 120 < uh.size ∨ 120 < up.size ∨ 120 < uq.size ∨ 120 < uf.size) → R = 2) := hlong
  have HSH : Hid ((us.size ≤ 120 ∧ uh.size ≤ 120 ∧ up.size ≤ 120 ∧ uq.size ≤ 120 ∧ uf.size ≤ 120) → _) := hshort
  clear hlong hshort
  obtain ⟨w9, hw9⟩ : ∃ W, W = (w.alloc (.cells #[.string us, .bool uhh, .string uh, .string up, .bool uhq, .string uq, .bool uhf, .string uf] 23)).alloc (.cells #[.string us, .string uh, .string up, .string uq, .string uf] 9) := ⟨_, rfl⟩
  have hb9 : Below w.heap.size w w9 := by rw [hw9]; exact ((Below.refl _ _).alloc (Nat.le_refl _) _).alloc (by simp) _
  have hs9 : w9.heap.size = w.heap.size + 1 + 1 := by rw [hw9]; simp
  have HU9 : w9.heap[w.heap.size]? = some (.cells #[.string us, .bool uhh, .string uh, .string up, .bool uhq, .string uq, .bool uhf, .string uf] 23) := by rw [hw9]; exact kept_alloc (by show (w.heap.push _)[w.heap.size]? = _; simp)
  have HT9 : w9.heap[w.heap.size + 1]? = some (.cells #[.string us, .string uh, .string up, .string uq, .string uf] 9) := by
    rw [hw9]
    show ((w.heap.push _).push _)[w.heap.size + 1]? = _
    rw [Array.getElem?_push, if_pos (by simp)]
  have t0 := blk_cell HT9 0
  have t1 := blk_cell HT9 1
  have t2 := blk_cell HT9 2
  have t3 := blk_cell HT9 3
  have t4 := blk_cell HT9 4
  have tf : ∀ i, w9.frozen? ⟨w.heap.size + 1, i, none⟩ = false := blk_frozen HT9
  go_enter Tryd.func13, Tryd.ntmps13
  go_wp2
  rw [← hw9]
  clear hw9
  go_loop [18] (fun iv => ∃ k : Nat, k ≤ 5 ∧ iv = .int .i64 k ∧ Hid ((1 ≤ k → us.size ≤ 120) ∧ (2 ≤ k → uh.size ≤ 120) ∧ (3 ≤ k → up.size ≤ 120) ∧ (4 ≤ k → uq.size ≤ 120) ∧ (5 ≤ k → uf.size ≤ 120))) (fun iv => 5 - (intOf iv).toNat)
  case atStart => exact ⟨0, Nat.zero_le _, rfl, ⟨fun h => absurd h (by omega), fun h => absurd h (by omega), fun h => absurd h (by omega), fun h => absurd h (by omega), fun h => absurd h (by omega)⟩⟩
  case round =>
    obtain ⟨k, hk, rfl, HK⟩ := hrel
    rcases (show k = 0 ∨ k = 1 ∨ k = 2 ∨ k = 3 ∨ k = 4 ∨ k = 5 by omega) with rfl | rfl | rfl | rfl | rfl | rfl
    · by_cases hgt : 120 < us.size
      · have hgi : (120 : Int) < (us.size : Int) := by omega
        have HN : Hid (R = 2) := HL.out (by omega)
        clear HK HL HSH
        go_wp2
        go_ret
        exact ⟨by rw [HN.out]; rfl, hb9⟩
      · have hgi : ¬ (120 : Int) < (us.size : Int) := by omega
        have HK2 : Hid ((1 ≤ 1 → us.size ≤ 120) ∧ (2 ≤ 1 → uh.size ≤ 120) ∧ (3 ≤ 1 → up.size ≤ 120) ∧ (4 ≤ 1 → uq.size ≤ 120) ∧ (5 ≤ 1 → uf.size ≤ 120)) := by
          have := HK.out
          unfold Hid
          refine ⟨fun _ => ?_, fun _ => ?_, fun _ => ?_, fun _ => ?_, fun _ => ?_⟩ <;> omega
        clear HK HL HSH
        go_wp2
        go_round
        case rel => exact ⟨1, by omega, by go_num, HK2⟩
        case measure => simp [intOf]
    · by_cases hgt : 120 < uh.size
      · have hgi : (120 : Int) < (uh.size : Int) := by omega
        have HN : Hid (R = 2) := HL.out (by omega)
        clear HK HL HSH
        go_wp2
        go_ret
        exact ⟨by rw [HN.out]; rfl, hb9⟩
      · have hgi : ¬ (120 : Int) < (uh.size : Int) := by omega
        have HK2 : Hid ((1 ≤ 2 → us.size ≤ 120) ∧ (2 ≤ 2 → uh.size ≤ 120) ∧ (3 ≤ 2 → up.size ≤ 120) ∧ (4 ≤ 2 → uq.size ≤ 120) ∧ (5 ≤ 2 → uf.size ≤ 120)) := by
          have := HK.out
          unfold Hid
          refine ⟨fun _ => ?_, fun _ => ?_, fun _ => ?_, fun _ => ?_, fun _ => ?_⟩ <;> omega
        clear HK HL HSH
        go_wp2
        go_round
        case rel => exact ⟨2, by omega, by go_num, HK2⟩
        case measure => simp [intOf]
    · by_cases hgt : 120 < up.size
      · have hgi : (120 : Int) < (up.size : Int) := by omega
        have HN : Hid (R = 2) := HL.out (by omega)
        clear HK HL HSH
        go_wp2
        go_ret
        exact ⟨by rw [HN.out]; rfl, hb9⟩
      · have hgi : ¬ (120 : Int) < (up.size : Int) := by omega
        have HK2 : Hid ((1 ≤ 3 → us.size ≤ 120) ∧ (2 ≤ 3 → uh.size ≤ 120) ∧ (3 ≤ 3 → up.size ≤ 120) ∧ (4 ≤ 3 → uq.size ≤ 120) ∧ (5 ≤ 3 → uf.size ≤ 120)) := by
          have := HK.out
          unfold Hid
          refine ⟨fun _ => ?_, fun _ => ?_, fun _ => ?_, fun _ => ?_, fun _ => ?_⟩ <;> omega
        clear HK HL HSH
        go_wp2
        go_round
        case rel => exact ⟨3, by omega, by go_num, HK2⟩
        case measure => simp [intOf]
    · by_cases hgt : 120 < uq.size
      · have hgi : (120 : Int) < (uq.size : Int) := by omega
        have HN : Hid (R = 2) := HL.out (by omega)
        clear HK HL HSH
        go_wp2
        go_ret
        exact ⟨by rw [HN.out]; rfl, hb9⟩
      · have hgi : ¬ (120 : Int) < (uq.size : Int) := by omega
        have HK2 : Hid ((1 ≤ 4 → us.size ≤ 120) ∧ (2 ≤ 4 → uh.size ≤ 120) ∧ (3 ≤ 4 → up.size ≤ 120) ∧ (4 ≤ 4 → uq.size ≤ 120) ∧ (5 ≤ 4 → uf.size ≤ 120)) := by
          have := HK.out
          unfold Hid
          refine ⟨fun _ => ?_, fun _ => ?_, fun _ => ?_, fun _ => ?_, fun _ => ?_⟩ <;> omega
        clear HK HL HSH
        go_wp2
        go_round
        case rel => exact ⟨4, by omega, by go_num, HK2⟩
        case measure => simp [intOf]
    · by_cases hgt : 120 < uf.size
      · have hgi : (120 : Int) < (uf.size : Int) := by omega
        have HN : Hid (R = 2) := HL.out (by omega)
        clear HK HL HSH
        go_wp2
        go_ret
        exact ⟨by rw [HN.out]; rfl, hb9⟩
      · have hgi : ¬ (120 : Int) < (uf.size : Int) := by omega
        have HK2 : Hid ((1 ≤ 5 → us.size ≤ 120) ∧ (2 ≤ 5 → uh.size ≤ 120) ∧ (3 ≤ 5 → up.size ≤ 120) ∧ (4 ≤ 5 → uq.size ≤ 120) ∧ (5 ≤ 5 → uf.size ≤ 120)) := by
          have := HK.out
          unfold Hid
          refine ⟨fun _ => ?_, fun _ => ?_, fun _ => ?_, fun _ => ?_, fun _ => ?_⟩ <;> omega
        clear HK HL HSH
        go_wp2
        go_round
        case rel => exact ⟨5, by omega, by go_num, HK2⟩
        case measure => simp [intOf]
    · obtain ⟨k1, k2, k3, k4, k5⟩ := HK.out
      obtain ⟨hR, hT, hbn, heh, heq, hef, heu, hes, C0, C1, C2, C3, C4, C5, C6, C7, C8, C9⟩ := HSH.out ⟨k1 (by omega), k2 (by omega), k3 (by omega), k4 (by omega), k5 (by omega)⟩
      have HR : Hid (R = if (b0 && (b1 && (b2 && (b3 && b4)))) = false then 1 else if bn = true then 4 else if (if uhh then !eu && !p1 else p2 || (es && cc)) = true then 4 else if 120 < T.size then 2 else 0) := hR
      have HE : Hid (bn = ((!eh && !uhh) || (!eq && !uhq) || (!ef && !uhf)) ∧ eh = uh.data.toList.isEmpty ∧ eq = uq.data.toList.isEmpty ∧ ef = uf.data.toList.isEmpty ∧ eu = up.data.toList.isEmpty ∧ es = us.data.toList.isEmpty) := ⟨hbn, heh, heq, hef, heu, hes⟩
      have H0 : Hid (∀ W, Calls Tryd.prog 44 #[.string us] W fun e w' => e = .returned (.bool b0) ∧ Below W.heap.size W w') := C0
      have H1 : Hid (∀ W, Calls Tryd.prog 48 #[.string uh, .int .u8 33, .int .u8 126, .string ⟨#[34, 60, 62, 92, 94, 96, 123, 124, 125, 47, 63, 35, 65, 66, 67, 68, 69, 70, 71, 72, 73, 74, 75, 76, 77, 78, 79, 80, 81, 82, 83, 84, 85, 86, 87, 88, 89, 90]⟩] W fun e w' => e = .returned (.bool b1) ∧ w' = W) := C1
      have H2 : Hid (∀ W, Calls Tryd.prog 48 #[.string up, .int .u8 33, .int .u8 126, .string ⟨#[34, 60, 62, 92, 94, 96, 123, 124, 125, 63, 35]⟩] W fun e w' => e = .returned (.bool b2) ∧ w' = W) := C2
      have H3 : Hid (∀ W, Calls Tryd.prog 48 #[.string uq, .int .u8 33, .int .u8 126, .string ⟨#[34, 60, 62, 92, 94, 96, 123, 124, 125, 35]⟩] W fun e w' => e = .returned (.bool b3) ∧ w' = W) := C3
      have H4 : Hid (∀ W, Calls Tryd.prog 48 #[.string uf, .int .u8 33, .int .u8 126, .string ⟨#[34, 60, 62, 92, 94, 96, 123, 124, 125, 35]⟩] W fun e w' => e = .returned (.bool b4) ∧ w' = W) := C4
      have H5 : Hid (∀ W, Calls Tryd.prog 20 #[.string up, .string ⟨#[47]⟩] W fun e w' => e = .returned (.bool p1) ∧ w' = W) := C5
      have H6 : Hid (∀ W, Calls Tryd.prog 20 #[.string up, .string ⟨#[47, 47]⟩] W fun e w' => e = .returned (.bool p2) ∧ w' = W) := C6
      have H7 : Hid (∀ W, Below w.heap.size w W → Calls Tryd.prog 22 #[.string up, .string ⟨#[47]⟩] W fun e w' => e = .returned (.slice (some ⟨W.heap.size, 0, none⟩) (n + 1) (n + 1)) ∧ Below W.heap.size W w' ∧ w'.cell? ⟨W.heap.size, 0, none⟩ = some (.string P0) ∧ w'.frozen? ⟨W.heap.size, 0, none⟩ = false) := C7
      have H8 : Hid (∀ W, Calls Tryd.prog 49 #[.string P0, .string ⟨#[58]⟩] W fun e w' => e = .returned (.bool cc) ∧ w' = W) := C8
      have H9 : Hid (∀ W, Calls Tryd.prog 16 #[.agg #[.string us, .bool uhh, .string uh, .string up, .bool uhq, .string uq, .bool uhf, .string uf]] W fun e w' => e = .returned (.string T) ∧ Below W.heap.size W w') := C9
      have z0 : ∀ W, Below w9.heap.size w9 W → W.cell? ⟨w.heap.size, 0, none⟩ = some (.string us) := fun W hb => blk_cell (kept_on HU9 hb) 0
      have z1 : ∀ W, Below w9.heap.size w9 W → W.cell? ⟨w.heap.size, 1, none⟩ = some (.bool uhh) := fun W hb => blk_cell (kept_on HU9 hb) 1
      have z2 : ∀ W, Below w9.heap.size w9 W → W.cell? ⟨w.heap.size, 2, none⟩ = some (.string uh) := fun W hb => blk_cell (kept_on HU9 hb) 2
      have z3 : ∀ W, Below w9.heap.size w9 W → W.cell? ⟨w.heap.size, 3, none⟩ = some (.string up) := fun W hb => blk_cell (kept_on HU9 hb) 3
      have z4 : ∀ W, Below w9.heap.size w9 W → W.cell? ⟨w.heap.size, 4, none⟩ = some (.bool uhq) := fun W hb => blk_cell (kept_on HU9 hb) 4
      have z5 : ∀ W, Below w9.heap.size w9 W → W.cell? ⟨w.heap.size, 5, none⟩ = some (.string uq) := fun W hb => blk_cell (kept_on HU9 hb) 5
      have z6 : ∀ W, Below w9.heap.size w9 W → W.cell? ⟨w.heap.size, 6, none⟩ = some (.bool uhf) := fun W hb => blk_cell (kept_on HU9 hb) 6
      have z7 : ∀ W, Below w9.heap.size w9 W → W.cell? ⟨w.heap.size, 7, none⟩ = some (.string uf) := fun W hb => blk_cell (kept_on HU9 hb) 7
      have kf : ∀ W, Below w9.heap.size w9 W → ∀ i, W.frozen? ⟨w.heap.size, i, none⟩ = false := fun W hb => blk_frozen (kept_on HU9 hb)
      clear k1 k2 k3 k4 k5 hR hbn heh heq hef heu hes C0 C1 C2 C3 C4 C5 C6 C7 C8 C9 HK HL HSH m0 m1 m2 m3 m4 t0 t1 t2 t3 t4 tf HT9
      have h99 : Below w9.heap.size w9 w9 := Below.refl _ _
      have HU : Hid (w9.heap[w.heap.size]? = some (.cells #[.string us, .bool uhh, .string uh, .string up, .bool uhq, .string uq, .bool uhf, .string uf] 23)) := HU9
      clear HU9
      go_upto_region 7 with fail
      go_cut [5] (fun c wx => c = .bool (b0 && (b1 && (b2 && (b3 && b4)))) ∧ Below w9.heap.size w9 wx)
      case first =>
        clear HR HE H5 H6 H7 H8 H9 HU
        have y0 := z0 w9 h99
        clear z0 z1 z4 z6
        cases b0 with
        | false =>
          go_wp2_with fail
          refine (H0.out _).mono ?_
          rintro e w1 ⟨rfl, hb1⟩
          go_wp2_with fail
          go_meet
          exact ⟨rfl, hb1⟩
        | true =>
          go_wp2_with fail
          refine (H0.out _).mono ?_
          rintro e w1 ⟨rfl, hb1⟩
          have y2 := z2 w1 hb1
          have y3 := z3 w1 hb1
          have y5 := z5 w1 hb1
          have y7 := z7 w1 hb1
          clear H0 z2 z3 z5 z7 kf
          go_wp2_with fail
          refine (H1.out _).mono ?_
          rintro e w2 ⟨rfl, hw2⟩
          subst hw2
          cases b1 with
          | false =>
            go_wp2_with fail
            go_meet
            exact ⟨rfl, hb1⟩
          | true =>
            go_wp2_with fail
            refine (H2.out _).mono ?_
            rintro e w3 ⟨rfl, hw3⟩
            subst hw3
            cases b2 with
            | false =>
              go_wp2_with fail
              go_meet
              exact ⟨rfl, hb1⟩
            | true =>
              go_wp2_with fail
              refine (H3.out _).mono ?_
              rintro e w4 ⟨rfl, hw4⟩
              subst hw4
              cases b3 with
              | false =>
                go_wp2_with fail
                go_meet
                exact ⟨rfl, hb1⟩
              | true =>
                go_wp2_with fail
                refine (H4.out _).mono ?_
                rintro e w5 ⟨rfl, hw5⟩
                subst hw5
                cases b4
                all_goals (
                  go_wp2_with fail
                  go_meet
                  exact ⟨rfl, hb1⟩)
      case rest =>
        obtain ⟨rfl, hb1⟩ := hcut
        have B1 : Below w.heap.size w wc := hb9.trans (hb1.mono hb9.size)
        clear H0 H1 H2 H3 H4
        by_cases hbw : (b0 && (b1 && (b2 && (b3 && b4)))) = true
        · rw [hbw]
          have y0 := z0 wc hb1
          have y1 := z1 wc hb1
          have y2 := z2 wc hb1
          have y3 := z3 wc hb1
          have y4 := z4 wc hb1
          have y5 := z5 wc hb1
          have y6 := z6 wc hb1
          have y7 := z7 wc hb1
          clear z0 z1 z2 z3 z4 z5 z6 z7 kf
          go_upto_region 10 with fail
          go_cut [78] (fun c wx => c = .bool bn ∧ wx = wc)
          case first =>
            clear H5 H6 H7 H8 H9 HR HU
            obtain ⟨hbn, heh, heq, hef, heu, hes⟩ := HE.out
            have e1 : uh.toList.isEmpty = eh := by rw [ByteArray.toList_eq, heh]
            have e2 : uq.toList.isEmpty = eq := by rw [ByteArray.toList_eq, heq]
            have e3 : uf.toList.isEmpty = ef := by rw [ByteArray.toList_eq, hef]
            have HB : Hid (bn = ((!eh && !uhh) || (!eq && !uhq) || (!ef && !uhf))) := hbn
            clear hbn heh heq hef heu hes HE y0 y3 B1 hbw hT
            cases eh with
            | true =>
              cases eq with
              | true =>
                cases ef with
                | true =>
                  go_wp2_with fail
                  go_meet
                  exact ⟨by rw [HB.out]; simp, rfl⟩
                | false =>
                  cases uhf with
                  | false =>
                    go_wp2_with fail
                    go_meet
                    exact ⟨by rw [HB.out]; simp, rfl⟩
                  | true =>
                    go_wp2_with fail
                    go_meet
                    exact ⟨by rw [HB.out]; simp, rfl⟩
              | false =>
                cases uhq with
                | false =>
                  go_wp2_with fail
                  go_meet
                  exact ⟨by rw [HB.out]; simp, rfl⟩
                | true =>
                  cases ef with
                  | true =>
                    go_wp2_with fail
                    go_meet
                    exact ⟨by rw [HB.out]; simp, rfl⟩
                  | false =>
                    cases uhf with
                    | false =>
                      go_wp2_with fail
                      go_meet
                      exact ⟨by rw [HB.out]; simp, rfl⟩
                    | true =>
                      go_wp2_with fail
                      go_meet
                      exact ⟨by rw [HB.out]; simp, rfl⟩
            | false =>
              cases uhh with
              | false =>
                go_wp2_with fail
                go_meet
                exact ⟨by rw [HB.out]; simp, rfl⟩
              | true =>
                cases eq with
                | true =>
                  cases ef with
                  | true =>
                    go_wp2_with fail
                    go_meet
                    exact ⟨by rw [HB.out]; simp, rfl⟩
                  | false =>
                    cases uhf with
                    | false =>
                      go_wp2_with fail
                      go_meet
                      exact ⟨by rw [HB.out]; simp, rfl⟩
                    | true =>
                      go_wp2_with fail
                      go_meet
                      exact ⟨by rw [HB.out]; simp, rfl⟩
                | false =>
                  cases uhq with
                  | false =>
                    go_wp2_with fail
                    go_meet
                    exact ⟨by rw [HB.out]; simp, rfl⟩
                  | true =>
                    cases ef with
                    | true =>
                      go_wp2_with fail
                      go_meet
                      exact ⟨by rw [HB.out]; simp, rfl⟩
                    | false =>
                      cases uhf with
                      | false =>
                        go_wp2_with fail
                        go_meet
                        exact ⟨by rw [HB.out]; simp, rfl⟩
                      | true =>
                        go_wp2_with fail
                        go_meet
                        exact ⟨by rw [HB.out]; simp, rfl⟩
          case rest =>
            obtain ⟨rfl, hwc⟩ := hcut
            subst hwc
            obtain ⟨hbn, heh, heq, hef, heu, hes⟩ := HE.out
            have e4 : up.toList.isEmpty = eu := by rw [ByteArray.toList_eq, heu]
            have e5 : us.toList.isEmpty = es := by rw [ByteArray.toList_eq, hes]
            clear hbn heh heq hef heu hes
            cases bn with
            | true =>
              have HN : Hid (R = 4) := by unfold Hid; rw [HR.out, if_neg (by simp [hbw]), if_pos rfl]
              clear HR HE H5 H6 H7 H8 H9 HU
              go_wp2
              go_ret
              exact ⟨by rw [HN.out]; rfl, B1⟩
            | false =>
              cases uhh with
              | true =>
                cases eu with
                | true =>
                  have HF : Hid (R = if 120 < T.size then 2 else 0) := by unfold Hid; rw [HR.out, if_neg (by simp [hbw]), if_neg (by simp), if_neg (by simp)]
                  clear HR HE H5 H6 H7 H8 HU
                  by_cases hgt : 120 < T.size
                  · have hgi : (120 : Int) < (T.size : Int) := by omega
                    have HN : Hid (R = 2) := by unfold Hid; rw [HF.out, if_pos hgt]
                    clear HF
                    go_wp2_with fail
                    refine (H9.out _).mono ?_
                    rintro e wt ⟨rfl, hbt⟩
                    go_wp2
                    go_ret
                    exact ⟨by rw [HN.out]; rfl, B1.trans (hbt.mono B1.size)⟩
                  · have hgi : ¬ (120 : Int) < (T.size : Int) := by omega
                    have HN : Hid (R = 0) := by unfold Hid; rw [HF.out, if_neg hgt]
                    clear HF
                    go_wp2_with fail
                    refine (H9.out _).mono ?_
                    rintro e wt ⟨rfl, hbt⟩
                    go_wp2
                    go_ret
                    exact ⟨by rw [HN.out]; rfl, B1.trans (hbt.mono B1.size)⟩
                | false =>
                  go_wp2_with fail
                  refine (H5.out _).mono ?_
                  rintro e w2 ⟨rfl, hw2⟩
                  subst hw2
                  cases p1 with
                  | true =>
                    have HF : Hid (R = if 120 < T.size then 2 else 0) := by unfold Hid; rw [HR.out, if_neg (by simp [hbw]), if_neg (by simp), if_neg (by simp)]
                    clear HR HE H5 H6 H7 H8 HU
                    by_cases hgt : 120 < T.size
                    · have hgi : (120 : Int) < (T.size : Int) := by omega
                      have HN : Hid (R = 2) := by unfold Hid; rw [HF.out, if_pos hgt]
                      clear HF
                      go_wp2_with fail
                      refine (H9.out _).mono ?_
                      rintro e wt ⟨rfl, hbt⟩
                      go_wp2
                      go_ret
                      exact ⟨by rw [HN.out]; rfl, B1.trans (hbt.mono B1.size)⟩
                    · have hgi : ¬ (120 : Int) < (T.size : Int) := by omega
                      have HN : Hid (R = 0) := by unfold Hid; rw [HF.out, if_neg hgt]
                      clear HF
                      go_wp2_with fail
                      refine (H9.out _).mono ?_
                      rintro e wt ⟨rfl, hbt⟩
                      go_wp2
                      go_ret
                      exact ⟨by rw [HN.out]; rfl, B1.trans (hbt.mono B1.size)⟩
                  | false =>
                    have HN : Hid (R = 4) := by unfold Hid; rw [HR.out, if_neg (by simp [hbw]), if_neg (by simp), if_pos (by simp)]
                    clear HR HE H5 H6 H7 H8 H9 HU
                    go_wp2
                    go_ret
                    exact ⟨by rw [HN.out]; rfl, B1⟩
              | false =>
                go_wp2_with fail
                refine (H6.out _).mono ?_
                rintro e w2 ⟨rfl, hw2⟩
                subst hw2
                cases p2 with
                | true =>
                  have HN : Hid (R = 4) := by unfold Hid; rw [HR.out, if_neg (by simp [hbw]), if_neg (by simp), if_pos (by simp)]
                  clear HR HE H5 H6 H7 H8 H9 HU
                  go_wp2
                  go_ret
                  exact ⟨by rw [HN.out]; rfl, B1⟩
                | false =>
                  cases es with
                  | false =>
                    have HF : Hid (R = if 120 < T.size then 2 else 0) := by unfold Hid; rw [HR.out, if_neg (by simp [hbw]), if_neg (by simp), if_neg (by simp)]
                    clear HR HE H5 H6 H7 H8 HU
                    by_cases hgt : 120 < T.size
                    · have hgi : (120 : Int) < (T.size : Int) := by omega
                      have HN : Hid (R = 2) := by unfold Hid; rw [HF.out, if_pos hgt]
                      clear HF
                      go_wp2_with fail
                      refine (H9.out _).mono ?_
                      rintro e wt ⟨rfl, hbt⟩
                      go_wp2
                      go_ret
                      exact ⟨by rw [HN.out]; rfl, B1.trans (hbt.mono B1.size)⟩
                    · have hgi : ¬ (120 : Int) < (T.size : Int) := by omega
                      have HN : Hid (R = 0) := by unfold Hid; rw [HF.out, if_neg hgt]
                      clear HF
                      go_wp2_with fail
                      refine (H9.out _).mono ?_
                      rintro e wt ⟨rfl, hbt⟩
                      go_wp2
                      go_ret
                      exact ⟨by rw [HN.out]; rfl, B1.trans (hbt.mono B1.size)⟩
                  | true =>
                    go_wp2_with fail
                    refine (H7.out _ B1).mono ?_
                    rintro e w3 ⟨rfl, hb3, hc3, hf3⟩
                    have hz0 := kept_on (kept_on HU.out hb1) hb3
                    have B3 : Below w.heap.size w w3 := B1.trans (hb3.mono B1.size)
                    clear y0 y1 y2 y3 y4 y5 y6 y7
                    obtain ⟨y0, y1, y2, y3, y4, y5, y6, y7, y8⟩ := cells_8 hz0
                    go_wp2_with fail
                    refine (H8.out _).mono ?_
                    rintro e w4 ⟨rfl, hw4⟩
                    subst hw4
                    cases cc with
                    | true =>
                      have HN : Hid (R = 4) := by unfold Hid; rw [HR.out, if_neg (by simp [hbw]), if_neg (by simp), if_pos (by simp)]
                      clear HR HE H5 H6 H7 H8 H9 HU
                      go_wp2
                      go_ret
                      exact ⟨by rw [HN.out]; rfl, B3⟩
                    | false =>
                      have HF : Hid (R = if 120 < T.size then 2 else 0) := by unfold Hid; rw [HR.out, if_neg (by simp [hbw]), if_neg (by simp), if_neg (by simp)]
                      clear HR HE H5 H6 H7 H8 HU
                      by_cases hgt : 120 < T.size
                      · have hgi : (120 : Int) < (T.size : Int) := by omega
                        have HN : Hid (R = 2) := by unfold Hid; rw [HF.out, if_pos hgt]
                        clear HF
                        go_wp2_with fail
                        refine (H9.out _).mono ?_
                        rintro e wt ⟨rfl, hbt⟩
                        go_wp2
                        go_ret
                        exact ⟨by rw [HN.out]; rfl, B3.trans (hbt.mono B3.size)⟩
                      · have hgi : ¬ (120 : Int) < (T.size : Int) := by omega
                        have HN : Hid (R = 0) := by unfold Hid; rw [HF.out, if_neg hgt]
                        clear HF
                        go_wp2_with fail
                        refine (H9.out _).mono ?_
                        rintro e wt ⟨rfl, hbt⟩
                        go_wp2
                        go_ret
                        exact ⟨by rw [HN.out]; rfl, B3.trans (hbt.mono B3.size)⟩
        · have hbf : (b0 && (b1 && (b2 && (b3 && b4)))) = false := by simpa using hbw
          rw [hbf]
          have HN : Hid (R = 1) := by unfold Hid; rw [HR.out, if_pos hbf]
          clear HR HE H5 H6 H7 H8 H9 HU z0 z1 z2 z3 z4 z5 z6 z7 kf
          go_wp2
          go_ret
          exact ⟨by rw [HN.out]; rfl, B1⟩
end Go.Proofs.YtnfidloiediflabDoor

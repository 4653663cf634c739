/- The walk of the law QuoteParts where both are few: it answers true, and nothing that was there is changed. Condition: internal/bytealg.MaxLen holds some number. -/
import Derived.Test.YtnjicfhmheaccaaDoorQPartsWalk
import Derived.Deep.RegionHeld3
namespace Go.Proofs.YtnjicfhmheaccaaDoor
open Go.RowKit

/-- What the last lines know: the two lists, and where they lie. -/
structure Two (w : World) (p q : Option Addr) (n k c d : Nat) (L M : List UInt8) (m : Int) (X Y S : ByteArray) : Prop where
  en : n = L.length
  ek : k = M.length
  sum : n + k ≤ 4000
  hr : BRow w p L
  hr2 : BRow w q M
  hp : p = none → n = 0 ∧ c = 0
  hq : q = none → k = 0 ∧ d = 0
  hm : w.cell? ⟨0, 0, none⟩ = some (.int .i64 m)
  hX : X = ⟨(encQ L).toArray⟩
  hY : Y = ⟨(encQ M).toArray⟩
  hS : S = ⟨L.toArray⟩

theorem write_x {w p q n k c d L M m X Y S} (T : Two w p q n k c d L M m X Y S) : Calls Tryd.prog 13 #[.slice p n c] w fun e w' => e = .returned (.tuple #[.string X, .int .i64 0]) ∧ Below w.heap.size w w' := by
  rw [T.hX]
  exact qwrite_any p n c L T.en w (by have := T.sum; have := T.en; omega) T.hr

theorem write_y {w p q n k c d L M m X Y S} (T : Two w p q n k c d L M m X Y S) (w1 : World) (hb : Below w.heap.size w w1) : Calls Tryd.prog 13 #[.slice q k d] w1 fun e w' => e = .returned (.tuple #[.string Y, .int .i64 0]) ∧ Below w.heap.size w w' := by
  rw [T.hY]
  refine (qwrite_any q k d M T.ek w1 (by have := T.sum; have := T.ek; omega) (T.hr2.below hb)).mono ?_
  rintro e w' ⟨rfl, hb'⟩
  exact ⟨rfl, hb.trans (hb'.mono hb.size)⟩

theorem read_xy {w p q n k c d L M m X Y S} (T : Two w p q n k c d L M m X Y S) (w1 : World) (hb : Below w.heap.size w w1) : Calls Tryd.prog 14 #[.string (X ++ Y)] w1 fun e w' =>
    ∃ p4 N4 c4, e = .returned (.tuple #[.slice p4 N4 c4, .int .i64 0]) ∧ Below w.heap.size w w' ∧ Hid (N4 = (L ++ M).length ∧ N4 ≤ c4 ∧ c4 ≤ maxLen ∧ BRow w' p4 (L ++ M)) := by
  rw [T.hX, T.hY]
  refine (dread_two L M (by have := T.sum; have := T.ek; have := T.en; omega) w1).mono ?_
  rintro e w' ⟨hb', p4, c4, rfl, h1, h2, h3⟩
  exact ⟨p4, _, c4, rfl, hb.trans (hb'.mono hb.size), rfl, h1, h2, h3⟩

theorem spots {w p q n k c d L M m X Y S} (T : Two w p q n k c d L M m X Y S) (w1 : World) (hb : Below w.heap.size w w1) : Calls Tryd.prog 20 #[.slice p n c, .func (Fn.func 21) #[] #[]] w1 fun e w' => e = .returned (.bool (L.any spotB)) ∧ Below w.heap.size w w' ∧ Below w1.heap.size w1 w' := by
  refine (containsSpot p n c L T.en w1 (by have := T.sum; omega) (T.hr.below hb)).mono ?_
  rintro e w' ⟨rfl, rfl⟩
  exact ⟨rfl, hb, Below.refl _ _⟩

theorem both_in {w p q n k c d L M m X Y S} (T : Two w p q n k c d L M m X Y S) (w4 W : World) (g : Nat) (p4 : Option Addr) (N4 c4 : Nat) (H4 : Hid (N4 = (L ++ M).length ∧ N4 ≤ c4 ∧ c4 ≤ maxLen ∧ BRow w4 p4 (L ++ M)))
    (h1 : W.cell? ⟨g, 0, none⟩ = some (.slice p n c)) (h2 : W.cell? ⟨g, 1, none⟩ = some (.slice q k d)) (hW : Below w.heap.size w W) (h4 : Below w4.heap.size w4 W) :
    Calls Tryd.prog 22 #[.slice (some ⟨g, 0, none⟩) 2 2] W fun e w' => ∃ p' N' c', e = .returned (.slice p' N' c') ∧ Below w.heap.size w w' ∧ Hid (N' = (L ++ M).length ∧ N' ≤ c' ∧ c' ≤ maxLen ∧ BRow w' p' (L ++ M)) ∧ Hid (N4 = (L ++ M).length ∧ N4 ≤ c4 ∧ c4 ≤ maxLen ∧ BRow w' p4 (L ++ M)) := by
  refine (concat_in w w4 W g p q p4 n k c d L M T.en T.ek T.sum T.hr T.hr2 T.hp T.hq H4.out.2.2.2 h1 h2 hW h4).mono ?_
  rintro e w' ⟨p', c', rfl, k1, k2, hb, hr6, hr64⟩
  exact ⟨p', _, c', rfl, hb, ⟨by rw [List.length_append, T.en, T.ek], k1, k2, hr6.out⟩, ⟨H4.out.1, H4.out.2.1, H4.out.2.2.1, hr64.out⟩⟩

theorem same_in (w W : World) (Z : List UInt8) (p4 p' : Option Addr) (N4 N' c4 c' : Nat) (H4 : Hid (N4 = Z.length ∧ N4 ≤ c4 ∧ c4 ≤ maxLen ∧ BRow W p4 Z)) (H' : Hid (N' = Z.length ∧ N' ≤ c' ∧ c' ≤ maxLen ∧ BRow W p' Z)) (hW : Below w.heap.size w W) :
    Calls Tryd.prog 9 #[.slice p4 N4 c4, .slice p' N' c'] W fun e w' => e = .returned (.bool true) ∧ Below w.heap.size w w' :=
  equal_in w W p4 p' N4 N' c4 c' Z H4.out.1 H'.out.1 H4.out.2.1 H4.out.2.2.1 H'.out.2.1 H'.out.2.2.1 H4.out.2.2.2 H'.out.2.2.2 hW

theorem repl_in {w p q n k c d L M m X Y S} (T : Two w p q n k c d L M m X Y S) (W : World) (HA : Hid (L.any spotB = false)) (hW : Below w.heap.size w W) :
    Calls Tryd.prog 12 #[.string X, .string ⟨#[61, 13, 10]⟩, .string ⟨#[]⟩] W fun e w' => e = .returned (.string S) ∧ Below w.heap.size w w' := by
  rw [T.hX, T.hS]
  exact replace_in w W L (by have := T.sum; have := T.en; omega) HA.out m ((hW.cell (p := ⟨0, 0, none⟩) (World.block_lt_of_cell? w _ T.hm)).trans T.hm) hW

theorem conv_in {w p q n k c d L M m X Y S} (T : Two w p q n k c d L M m X Y S) (W : World) (hW : Below w.heap.size w W) : (convert 22 9 (.slice p n c)).run Tryd.prog W = .ok (.string S) W := by
  rw [T.hS]
  exact conv_row W p n c L T.en (T.hr.below hW) T.hp

theorem two_size {w p q n k c d L M m X Y S} (T : Two w p q n k c d L M m X Y S) : X.size + Y.size ≤ 16000 := by
  have h1 := enc_length L
  have h2 := enc_length M
  have h3 := T.sum
  have h4 := T.en
  have h5 := T.ek
  rw [T.hX, T.hY]
  show (encQ L).toArray.size + (encQ M).toArray.size ≤ _
  rw [List.size_toArray, List.size_toArray]
  omega

set_option maxHeartbeats 1000000 in
set_option maxRecDepth 100000 in
theorem qparts_all {w p q n k c d L M m X Y S} (T : Two w p q n k c d L M m X Y S) :
    Calls Tryd.prog 6 #[.slice p n c, .slice q k d] w fun e w' => e = .returned (.bool true) ∧ Below w.heap.size w w' := by
  have HT : Hid (Two w p q n k c d L M m X Y S) := T
  have hsum := T.sum
  have h' : ¬ (4000 : Int) < (n : Int) + (k : Int) := by omega
  have hsz := two_size T
  have hszi : ¬ (16000 : Int) < (X.size : Int) + (Y.size : Int) := by omega
  clear T
  go_enter Tryd.func6, Tryd.ntmps6
  go_wp2_with fail
  refine (write_x HT.out).mono ?_
  rintro e w1 ⟨rfl, hb1⟩
  go_wp2_with fail
  refine (write_y HT.out w1 hb1).mono ?_
  rintro e w2 ⟨rfl, hb2⟩
  clear hb1
  go_wp2_with fail
  refine (quoted_any _).mono ?_
  rintro e w3 ⟨rfl, hb3⟩
  have hbw3 := hb2.trans (hb3.mono hb2.size)
  clear hb2 hb3
  go_wp2_with fail
  refine (read_xy HT.out w3 hbw3).mono ?_
  rintro e w4 ⟨p4, N4, c4, rfl, hbw4, H4⟩
  clear hbw3
  go_wp2_with fail
  refine (spots HT.out w4 hbw4).mono ?_
  rintro e w5 ⟨rfl, hbw5, hb45⟩
  have H5 : Hid (N4 = (L ++ M).length ∧ N4 ≤ c4 ∧ c4 ≤ maxLen ∧ BRow w5 p4 (L ++ M)) := ⟨H4.out.1, H4.out.2.1, H4.out.2.2.1, H4.out.2.2.2.below hb45⟩
  have h55 : Below w5.heap.size w5 w5 := Below.refl _ _
  have hsz5 := hbw5.size
  clear H4 hbw4 hb45
  have hcv : ∀ w', Below w.heap.size w w' → (convert 22 9 (.slice p n c)).run Tryd.prog w' = .ok (.string S) w' := fun w' hb => conv_in HT.out w' hb
  cases hany : L.any spotB
  · have HA : Hid (L.any spotB = false) := hany
    clear hany
    go_wp2_with fail
    go_region_held3 (fun w' => Below w.heap.size w w') (first | assumption | exact hbw5.drew | exact ((hbw5.alloc hsz5 _).drew) | exact (hbw5.drew.alloc hsz5 _)) (first
      | (go_at_call 22; refine (both_in HT.out w5 _ _ p4 N4 c4 H5 ?_ ?_ ?_ ?_).mono ?_; simp; simp; exact ((hbw5.alloc hsz5 _).drew); exact ((h55.alloc (Nat.le_refl _) _).drew); rintro e w6 ⟨p6, N6, c6, rfl, hb6, K6, K4⟩)
      | (go_at_call 9; refine (same_in w _ (L ++ M) p4 p6 N4 N6 c4 c6 K4 K6 hb6).mono ?_; rintro e w7 ⟨rfl, hb7⟩)
      | (go_at_call 12; refine (repl_in HT.out _ HA hb7).mono ?_; rintro e w8 ⟨rfl, hb8⟩))
    go_wp2
    go_ret
    exact ⟨rfl, hb8⟩
  · have HA : Hid (L.any spotB = true) := hany
    clear hany
    go_wp2_with fail
    first
    | (go_region_held (fun w' => Below w.heap.size w w') (first | assumption | exact hbw5.drew | exact ((hbw5.alloc hsz5 _).drew) | exact (hbw5.drew.alloc hsz5 _)) (first
      | (go_at_call 22; refine (both_in HT.out w5 _ _ p4 N4 c4 H5 ?_ ?_ ?_ ?_).mono ?_; simp; simp; exact ((hbw5.alloc hsz5 _).drew); exact ((h55.alloc (Nat.le_refl _) _).drew); rintro e w6 ⟨p6, N6, c6, rfl, hb6, K6, K4⟩)
      | (go_at_call 9; refine (same_in w _ (L ++ M) p4 p6 N4 N6 c4 c6 K4 K6 hb6).mono ?_; rintro e w7 ⟨rfl, hb7⟩)))
    | fail
    all_goals go_wp2
    all_goals go_ret
    all_goals exact ⟨rfl, by assumption⟩

/-- QuoteParts. -/
theorem qparts_any (p q : Option Addr) (n c k d : Nat) (zs ys : List Int) (w : World) (h : IsRow .u8 w p n c zs) (h2 : IsRow .u8 w q k d ys) (m : Int) (hm : w.cell? ⟨0, 0, none⟩ = some (.int .i64 m)) :
    Calls Tryd.prog 6 #[.slice p n c, .slice q k d] w fun e w' => e = .returned (.bool true) ∧ Below w.heap.size w w' := by
  obtain ⟨L, hL, hcap, hcm, hp, hr⟩ := isRow_bytes h
  obtain ⟨M, hM, hdap, hdm, hq, hr2⟩ := isRow_bytes h2
  by_cases h4 : 4000 < n
  · exact qparts_first p q n c k d M hM.symm w (Nat.le_trans hcap hcm) h4 (Nat.le_trans hdap hdm) hr2
  · by_cases h5 : 4000 < k
    · exact qparts_second p q n c k d L hL.symm w (by omega) hr (Nat.le_trans hdap hdm) h5
    · by_cases h6 : 4000 < n + k
      · exact qparts_sum p q n c k d L M hL.symm hM.symm w (by omega) (by omega) hr hr2 h6
      · exact qparts_all (m := m) (X := ⟨(encQ L).toArray⟩) (Y := ⟨(encQ M).toArray⟩) (S := ⟨L.toArray⟩) ⟨hL.symm, hM.symm, by omega, hr, hr2, hp, hq, hm, rfl, rfl, rfl⟩
end Go.Proofs.YtnjicfhmheaccaaDoor

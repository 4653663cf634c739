/- The reference's LedTo is leadU: rled_any. Condition: the texts are shorter than maxLen; MaxLen holds a number. -/
import Derived.Test.YtnfidloiediflabDoorRLed
namespace Go.Proofs.YtnfidloiediflabDoor
open Go.RowKit

theorem like_bad {u : UL} (h : likeU u = true) : checkU u ≠ 0 := by
  intro h0
  obtain ⟨_, _, hf, _⟩ := checkU_zero h0
  have hh : u.hh = false := by unfold likeU at h; simp at h; exact h.1
  unfold frmU at hf
  rw [h, hh] at hf
  split at hf <;> simp at hf

theorem pre_two (s : ByteArray) (w : World) : Calls Tryd.prog 20 #[.string s, .string ⟨#[47, 47]⟩] w fun e w' => e = .returned (.bool (preSS s.data.toList)) ∧ w' = w := by
  refine (Tryd.strings_HasPrefix s ⟨#[47, 47]⟩ w).mono ?_
  rintro e w' ⟨rfl, rfl⟩
  refine ⟨?_, rfl⟩
  rw [show Lib.hasPrefix s.data.toList (ByteArray.mk #[47, 47]).data.toList = preSS s.data.toList from by
    show Lib.hasPrefix s.data.toList [47, 47] = preSS s.data.toList
    match s.data.toList with
    | [] => rfl
    | [a] => simp [Lib.hasPrefix, List.isPrefixOf, preSS]
    | a :: b :: l => simp [Lib.hasPrefix, List.isPrefixOf, preSS, Bool.beq_comm]]

/-- What stands ahead of the last stroke, or the stroke alone. -/
def dirD (bp : ByteArray) (bhh : Bool) : ByteArray := if (bhh && bp.data.toList.isEmpty) = true then ⟨#[47]⟩ else bar (dirP bp.data.toList)
theorem dirD_size (bp : ByteArray) (bhh : Bool) (h : bp.size ≤ 120) : (dirD bp bhh).size ≤ 121 := by
  obtain ⟨d1, d2, d3⟩ := last_dir bp
  unfold dirD
  split
  · show 1 ≤ 121; omega
  · rw [bar_size, d3, List.length_take]
    have := Lib.size_eq bp
    omega
theorem dirD_at (bp : ByteArray) (bhh : Bool) :
    (bhh = true ∧ bp.data.toList = [] ∧ Lib.lastIndexByte bp 47 = -1 ∧ dirD bp bhh = ⟨#[47]⟩) ∨ ((bhh = false ∨ (bhh = true ∧ bp.data.toList ≠ [])) ∧ ((Lib.lastIndexByte bp 47 = -1 ∧ dirD bp bhh = E0) ∨ ∃ m : Nat, Lib.lastIndexByte bp 47 = (m : Int) ∧ m < bp.size ∧ bp.extract 0 (m + 1) = dirD bp bhh)) := by
  obtain ⟨d1, d2, d3⟩ := last_dir bp
  by_cases hA : (bhh && bp.data.toList.isEmpty) = true
  · left
    have hA' := hA
    rw [Bool.and_eq_true] at hA'
    have hbe : bp.data.toList = [] := by simpa using hA'.2
    have hz : bp.size = 0 := by rw [Lib.size_eq, hbe]; rfl
    refine ⟨hA'.1, hbe, by omega, ?_⟩
    unfold dirD
    rw [if_pos hA]
  · right
    refine ⟨?_, ?_⟩
    · cases bhh with
      | false => exact .inl rfl
      | true => refine .inr ⟨rfl, ?_⟩; intro h; apply hA; rw [h]; rfl
    · have hD : dirD bp bhh = bar (dirP bp.data.toList) := by unfold dirD; rw [if_neg hA]
      rw [hD, d3]
      by_cases hk : Lib.lastIndexByte bp 47 = -1
      · left
        refine ⟨hk, ?_⟩
        rw [hk]
        rfl
      · right
        refine ⟨(Lib.lastIndexByte bp 47).toNat, by omega, by omega, ?_⟩
        apply ba_inj
        rw [Lib.extract_data, show (Lib.lastIndexByte bp 47).toNat + 1 = (Lib.lastIndexByte bp 47 + 1).toNat from by omega]
        simp [bar]

theorem fill_of (bs bh bp bq bf us uh up uq uf : ByteArray) (bhh bhq bhf uhh uhq uhf : Bool) (b1 : bs.size ≤ 120) (b2 : bh.size ≤ 120) (b3 : bp.size ≤ 120) (b4 : bq.size ≤ 120) (u1 : us.size ≤ 120) (u2 : uh.size ≤ 120) (u3 : up.size ≤ 120) (u4 : uq.size ≤ 120) :
    ∃ s1 h1 p1 q1 hh1 hq1, FillAt bs bh bp bq us uh up uq s1 h1 p1 q1 (dirD bp bhh) bhh bhq uhh uhq hh1 hq1 (preS up.data.toList) ∧ fullU (UV.l ⟨bs, bhh, bh, bp, bhq, bq, bhf, bf⟩) (UV.l ⟨us, uhh, uh, up, uhq, uq, uhf, uf⟩) = UV.l ⟨s1, hh1, h1, p1, hq1, q1, uhf, uf⟩ ∧ s1.size ≤ 120 ∧ h1.size ≤ 120 ∧ p1.size ≤ 250 ∧ q1.size ≤ 120 := by
  have hds := dirD_size bp bhh b3
  by_cases hue : us.data.toList = []
  · obtain rfl := bempty_yes us hue
    cases uhh with
    | true => exact ⟨_, _, _, _, _, _, .inr (.inl ⟨rfl, rfl, rfl, rfl, rfl, rfl, rfl, rfl⟩), rfl, b1, u2, by omega, u4⟩
    | false =>
      by_cases hpe : up.data.toList = []
      · obtain rfl := bempty_yes up hpe
        cases uhq with
        | true => exact ⟨_, _, _, _, _, _, .inr (.inr (.inl ⟨rfl, rfl, rfl, rfl, rfl, rfl, rfl, rfl, rfl, rfl⟩)), rfl, b1, b2, by omega, u4⟩
        | false => exact ⟨_, _, _, _, _, _, .inr (.inr (.inr (.inl ⟨rfl, rfl, rfl, rfl, rfl, rfl, rfl, rfl, rfl, rfl⟩))), rfl, b1, b2, by omega, b4⟩
      · have hce : fullU (UV.l ⟨bs, bhh, bh, bp, bhq, bq, bhf, bf⟩) (UV.l ⟨⟨#[]⟩, false, uh, up, uhq, uq, uhf, uf⟩) = if preS up.data.toList then ⟨bs.data.toList, bhh, bh.data.toList, up.data.toList, uhq, uq.data.toList, uhf, uf.data.toList⟩ else if bhh && bp.data.toList.isEmpty then ⟨bs.data.toList, bhh, bh.data.toList, 47 :: up.data.toList, uhq, uq.data.toList, uhf, uf.data.toList⟩ else ⟨bs.data.toList, bhh, bh.data.toList, dirP bp.data.toList ++ up.data.toList, uhq, uq.data.toList, uhf, uf.data.toList⟩ := by
          show compU (UV.l ⟨bs, bhh, bh, bp, bhq, bq, bhf, bf⟩) (UV.l ⟨⟨#[]⟩, false, uh, up, uhq, uq, uhf, uf⟩) = _
          unfold compU UV.l
          simp only
          rw [if_neg (by simp), if_neg (by rw [isE_no up hpe]; simp)]
        rw [hce]
        cases hps : preS up.data.toList with
        | true =>
          rw [if_pos rfl]
          exact ⟨_, _, _, _, _, _, .inr (.inr (.inr (.inr (.inl ⟨rfl, rfl, rfl, rfl, rfl, hpe, rfl, rfl, rfl, rfl⟩)))), rfl, b1, b2, by omega, u4⟩
        | false =>
          rw [if_neg (by simp)]
          refine ⟨_, _, _, _, _, _, .inr (.inr (.inr (.inr (.inr ⟨rfl, rfl, rfl, rfl, rfl, hpe, rfl, rfl, rfl, rfl⟩)))), ?_, b1, b2, by rw [ByteArray.size_append]; omega, u4⟩
          unfold dirD
          unfold UV.l
          simp only [data_app]
          split
          · rfl
          · rfl
  · have hfull : fullU (UV.l ⟨bs, bhh, bh, bp, bhq, bq, bhf, bf⟩) (UV.l ⟨us, uhh, uh, up, uhq, uq, uhf, uf⟩) = UV.l ⟨us, uhh, uh, up, uhq, uq, uhf, uf⟩ := by
      unfold fullU
      rw [if_neg]
      show ¬ us.data.toList.isEmpty = true
      rw [isE_no us hue]; simp
    exact ⟨_, _, _, _, _, _, .inl ⟨hue, rfl, rfl, rfl, rfl, rfl, rfl⟩, hfull, u1, u2, by omega, u4⟩

set_option maxHeartbeats 4000000 in
set_option maxRecDepth 100000 in
/-- The base itself is wrong. -/
theorem rled_b (bs bh bp bq bf us uh up uq uf : ByteArray) (bhh bhq bhf uhh uhq uhf : Bool) (n : Nat) (hn : n ≠ 0) (w : World)
    (CB : ∀ W, Below w.heap.size w W → Calls Tryd.prog 13 #[.agg (cellsU bs bhh bh bp bhq bq bhf bf)] W fun e w' => e = .returned (.int .i64 (n : Int)) ∧ Below W.heap.size W w') :
    Calls Tryd.prog 12 #[.agg (cellsU bs bhh bh bp bhq bq bhf bf), .agg (cellsU us uhh uh up uhq uq uhf uf)] w fun e w' => e = .returned (.tuple #[zeroU, .int .i64 (n : Int)]) ∧ Below w.heap.size w w' := by
  have HCB : Hid (∀ W, Below w.heap.size w W → _) := CB
  clear CB
  have P0 := three_n w 23 (cellsU bs bhh bh bp bhq bq bhf bf) (cellsU us uhh uh up uhq uq uhf uf) (cellsU E0 false E0 E0 false E0 false E0)
  have hn0 : ((n : Int) == 0) = false := by rw [beq_eq_false_iff_ne]; omega
  have hn1 : ¬ (n : Int) = 0 := by omega
  go_enter Tryd.func12, Tryd.ntmps12
  go_wp2_with fail
  obtain ⟨W0, hW0⟩ : ∃ W, W = ((w.alloc (.cells (cellsU bs bhh bh bp bhq bq bhf bf) 23)).alloc (.cells (cellsU us uhh uh up uhq uq uhf uf) 23)).alloc (.cells (cellsU E0 false E0 E0 false E0 false E0) 23) := ⟨_, rfl⟩
  rw [← hW0] at P0
  rw [← hW0]
  clear hW0
  refine (HCB.out _ P0.1).mono ?_
  rintro e w1 ⟨rfl, hb1⟩
  have P1 := P0.below hb1
  clear HCB hb1 P0
  go_wp2_with fail
  refine (lbad_any _ _).mono ?_
  rintro e w9 ⟨rfl, hb9⟩
  have P9 := P1.below hb9
  clear hb9 P1
  obtain ⟨r0, r1, r2, r3, r4, r5, r6, r7, rf⟩ := cells_8 P9.2.2.2
  go_wp2
  refine bodyPost_ret (v := .tuple #[zeroU, .int .i64 (n : Int)]) ?_ rfl ⟨rfl, ?_⟩
  · rw [results_cell_tmp rfl]
    go_simp
  · exact ((((((((P9.1.setCell (Nat.le_add_right w.heap.size 2) _).setCell (Nat.le_add_right w.heap.size 2) _).setCell (Nat.le_add_right w.heap.size 2) _).setCell (Nat.le_add_right w.heap.size 2) _).setCell (Nat.le_add_right w.heap.size 2) _).setCell (Nat.le_add_right w.heap.size 2) _).setCell (Nat.le_add_right w.heap.size 2) _).setCell (Nat.le_add_right w.heap.size 2) _)

set_option maxHeartbeats 4000000 in
set_option maxRecDepth 100000 in
/-- The address itself is wrong. -/
theorem rled_u (bs bh bp bq bf us uh up uq uf : ByteArray) (bhh bhq bhf uhh uhq uhf : Bool) (n : Nat) (hn : n ≠ 0) (w : World)
    (CB : ∀ W, Below w.heap.size w W → Calls Tryd.prog 13 #[.agg (cellsU bs bhh bh bp bhq bq bhf bf)] W fun e w' => e = .returned (.int .i64 0) ∧ Below W.heap.size W w')
    (CU : ∀ W, Below w.heap.size w W → Calls Tryd.prog 13 #[.agg (cellsU us uhh uh up uhq uq uhf uf)] W fun e w' => e = .returned (.int .i64 (n : Int)) ∧ Below W.heap.size W w') :
    Calls Tryd.prog 12 #[.agg (cellsU bs bhh bh bp bhq bq bhf bf), .agg (cellsU us uhh uh up uhq uq uhf uf)] w fun e w' => e = .returned (.tuple #[zeroU, .int .i64 (n : Int)]) ∧ Below w.heap.size w w' := by
  have HCB : Hid (∀ W, Below w.heap.size w W → _) := CB
  have HCU : Hid (∀ W, Below w.heap.size w W → _) := CU
  clear CB CU
  have P0 := three_n w 23 (cellsU bs bhh bh bp bhq bq bhf bf) (cellsU us uhh uh up uhq uq uhf uf) (cellsU E0 false E0 E0 false E0 false E0)
  have hn0 : ((n : Int) == 0) = false := by rw [beq_eq_false_iff_ne]; omega
  have hn1 : ¬ (n : Int) = 0 := by omega
  go_enter Tryd.func12, Tryd.ntmps12
  go_wp2_with fail
  obtain ⟨W0, hW0⟩ : ∃ W, W = ((w.alloc (.cells (cellsU bs bhh bh bp bhq bq bhf bf) 23)).alloc (.cells (cellsU us uhh uh up uhq uq uhf uf) 23)).alloc (.cells (cellsU E0 false E0 E0 false E0 false E0) 23) := ⟨_, rfl⟩
  rw [← hW0] at P0
  rw [← hW0]
  clear hW0
  refine (HCB.out _ P0.1).mono ?_
  rintro e w1 ⟨rfl, hb1⟩
  have P1 := P0.below hb1
  clear HCB hb1 P0
  obtain ⟨c0, c1, c2, c3, c4, c5, c6, c7, cf⟩ := cells_8 P1.2.2.1
  go_wp2_with fail
  refine (HCU.out _ P1.1).mono ?_
  rintro e w2 ⟨rfl, hb2⟩
  have P2 := P1.below hb2
  clear HCU hb2 P1 c0 c1 c2 c3 c4 c5 c6 c7 cf
  go_wp2_with fail
  refine (lbad_any _ _).mono ?_
  rintro e w9 ⟨rfl, hb9⟩
  have P9 := P2.below hb9
  clear hb9 P2
  obtain ⟨r0, r1, r2, r3, r4, r5, r6, r7, rf⟩ := cells_8 P9.2.2.2
  go_wp2
  refine bodyPost_ret (v := .tuple #[zeroU, .int .i64 (n : Int)]) ?_ rfl ⟨rfl, ?_⟩
  · rw [results_cell_tmp rfl]
    go_simp
  · exact ((((((((P9.1.setCell (Nat.le_add_right w.heap.size 2) _).setCell (Nat.le_add_right w.heap.size 2) _).setCell (Nat.le_add_right w.heap.size 2) _).setCell (Nat.le_add_right w.heap.size 2) _).setCell (Nat.le_add_right w.heap.size 2) _).setCell (Nat.le_add_right w.heap.size 2) _).setCell (Nat.le_add_right w.heap.size 2) _).setCell (Nat.le_add_right w.heap.size 2) _)

set_option maxHeartbeats 4000000 in
set_option maxRecDepth 100000 in
/-- The base has no scheme. -/
theorem rled_S (bh bp bq bf us uh up uq uf : ByteArray) (bhh bhq bhf uhh uhq uhf : Bool) (w : World)
    (CB : ∀ W, Below w.heap.size w W → Calls Tryd.prog 13 #[.agg (cellsU E0 bhh bh bp bhq bq bhf bf)] W fun e w' => e = .returned (.int .i64 0) ∧ Below W.heap.size W w')
    (CU : ∀ W, Below w.heap.size w W → Calls Tryd.prog 13 #[.agg (cellsU us uhh uh up uhq uq uhf uf)] W fun e w' => e = .returned (.int .i64 0) ∧ Below W.heap.size W w') :
    Calls Tryd.prog 12 #[.agg (cellsU E0 bhh bh bp bhq bq bhf bf), .agg (cellsU us uhh uh up uhq uq uhf uf)] w fun e w' => e = .returned (.tuple #[zeroU, .int .i64 4]) ∧ Below w.heap.size w w' := by
  have HCB : Hid (∀ W, Below w.heap.size w W → _) := CB
  have HCU : Hid (∀ W, Below w.heap.size w W → _) := CU
  clear CB CU
  have P0 := three_n w 23 (cellsU E0 bhh bh bp bhq bq bhf bf) (cellsU us uhh uh up uhq uq uhf uf) (cellsU E0 false E0 E0 false E0 false E0)
  have hbe := bempty_t E0 rfl
  go_enter Tryd.func12, Tryd.ntmps12
  go_wp2_with fail
  obtain ⟨W0, hW0⟩ : ∃ W, W = ((w.alloc (.cells (cellsU E0 bhh bh bp bhq bq bhf bf) 23)).alloc (.cells (cellsU us uhh uh up uhq uq uhf uf) 23)).alloc (.cells (cellsU E0 false E0 E0 false E0 false E0) 23) := ⟨_, rfl⟩
  rw [← hW0] at P0
  rw [← hW0]
  clear hW0
  refine (HCB.out _ P0.1).mono ?_
  rintro e w1 ⟨rfl, hb1⟩
  have P1 := P0.below hb1
  clear HCB hb1 P0
  obtain ⟨c0, c1, c2, c3, c4, c5, c6, c7, cf⟩ := cells_8 P1.2.2.1
  go_wp2_with fail
  refine (HCU.out _ P1.1).mono ?_
  rintro e w2 ⟨rfl, hb2⟩
  have P2 := P1.below hb2
  clear HCU hb2 P1 c0 c1 c2 c3 c4 c5 c6 c7 cf
  obtain ⟨d0, d1, d2, d3, d4, d5, d6, d7, df⟩ := cells_8 P2.2.1
  go_wp2_with fail
  refine (lbad_any _ _).mono ?_
  rintro e w9 ⟨rfl, hb9⟩
  have P9 := P2.below hb9
  clear hb9 P2 d0 d1 d2 d3 d4 d5 d6 d7 df
  obtain ⟨r0, r1, r2, r3, r4, r5, r6, r7, rf⟩ := cells_8 P9.2.2.2
  go_wp2
  refine bodyPost_ret (v := .tuple #[zeroU, .int .i64 4]) ?_ rfl ⟨rfl, ?_⟩
  · rw [results_cell_tmp rfl]
    go_simp
  · exact ((((((((P9.1.setCell (Nat.le_add_right w.heap.size 2) _).setCell (Nat.le_add_right w.heap.size 2) _).setCell (Nat.le_add_right w.heap.size 2) _).setCell (Nat.le_add_right w.heap.size 2) _).setCell (Nat.le_add_right w.heap.size 2) _).setCell (Nat.le_add_right w.heap.size 2) _).setCell (Nat.le_add_right w.heap.size 2) _).setCell (Nat.le_add_right w.heap.size 2) _)

/-- What LedTo answers at its end. -/
theorem end_at (y : UV) (ss : Bool) (hs : ss = preSS y.pth.data.toList) :
    (checkU y.l = 0 ∧ (ofL (endU y.l).1).v = y.v ∧ (endU y.l).2 = 0) ∨ (checkU y.l ≠ 0 ∧ (ofL (endU y.l).1).v = zeroU ∧ (endU y.l).2 = if (!y.hh && ss) = true then 4 else checkU y.l) := by
  have hlk : likeU y.l = (!y.hh && ss) := by rw [hs]; rfl
  unfold endU
  cases hl : likeU y.l with
  | true =>
    refine .inr ⟨like_bad hl, ?_, ?_⟩
    · rw [if_pos rfl]; rfl
    · rw [if_pos rfl, if_pos (hlk.symm.trans hl)]
  | false =>
    rw [if_neg (by simp)]
    unfold checkedU
    by_cases h0 : checkU y.l = 0
    · refine .inl ⟨h0, ?_, ?_⟩
      · rw [if_pos h0]; rfl
      · rw [if_pos h0]
    · refine .inr ⟨h0, ?_, ?_⟩
      · rw [if_neg h0]; rfl
      · rw [if_neg h0, if_neg (by rw [← hlk, hl]; simp)]

/-- The reference's LedTo. -/
theorem rled_any (b u : UV) (hb : b.short maxLen) (hu : u.short maxLen) (w : World) (hM : MaxAt w) :
    Calls Tryd.prog 12 #[b.v, u.v] w fun e w' => UPost w (leadU b.l u.l) e w' := by
  have CB := fun W (h : Below w.heap.size w W) => rchk_any b hb W (hM.below h)
  have CU := fun W (h : Below w.heap.size w W) => rchk_any u hu W (hM.below h)
  obtain ⟨bs, bhh, bh, bp, bhq, bq, bhf, bf⟩ := b
  obtain ⟨us, uhh, uh, up, uhq, uq, uhf, uf⟩ := u
  unfold leadU
  by_cases hcb : checkU (UV.l ⟨bs, bhh, bh, bp, bhq, bq, bhf, bf⟩) = 0
  · by_cases hcu : checkU (UV.l ⟨us, uhh, uh, up, uhq, uq, uhf, uf⟩) = 0
    · rw [if_neg (by simpa using hcb), if_neg (by simpa using hcu)]
      rw [hcb] at CB
      rw [hcu] at CU
      have sb := checkU_short hcb
      have su := checkU_short hcu
      by_cases hse : bs.data.toList = []
      · obtain rfl := bempty_yes bs hse
        rw [if_pos (by rfl)]
        refine (rled_S bh bp bq bf us uh up uq uf bhh bhq bhf uhh uhq uhf w CB CU).mono ?_
        rintro e w' ⟨rfl, hb⟩
        exact ⟨rfl, hb⟩
      · rw [if_neg (by show ¬ bs.data.toList.isEmpty = true; rw [isE_no bs hse]; simp)]
        obtain ⟨b1, b2, b3, b4, b5⟩ := sb
        obtain ⟨u1, u2, u3, u4, u5⟩ := su
        simp only at b1 b2 b3 b4 b5 u1 u2 u3 u4 u5
        have hfp := full_path _ _ hcb hcu
        obtain ⟨s1, h1, p1, q1, hh1, hq1, XF, hfull, l1, l2, l3, l4⟩ := fill_of bs bh bp bq bf us uh up uq uf bhh bhq bhf uhh uhq uhf b1 b2 b3 b4 u1 u2 u3 u4
        rw [hfull] at hfp
        rw [hfull]
        have hul := undot_len p1.data.toList
        have hpl := Lib.size_eq p1
        have hds := dirD_size bp bhh b3
        have CL : ∀ W, Calls Tryd.prog 46 #[.string bp, .string ⟨#[47]⟩] W fun e w' => e = .returned (.int .i64 (Lib.lastIndexByte bp 47)) ∧ w' = W := fun W => Tryd.strings_LastIndex_one bp ⟨#[47]⟩ rfl (by omega) W
        obtain ⟨p2, hund, hp2, CQ⟩ : ∃ p2 : ByteArray, undU (UV.l ⟨s1, hh1, h1, p1, hq1, q1, uhf, uf⟩) = UV.l ⟨s1, hh1, h1, p2, hq1, q1, uhf, uf⟩ ∧ p2.size ≤ 300 ∧ ((hh1 = true ∧ ∀ W, Below w.heap.size w W → Calls Tryd.prog 47 #[.string p1] W fun e w' => e = .returned (.string p2) ∧ Below W.heap.size W w') ∨ (hh1 = false ∧ preS p1.data.toList = true ∧ ∀ W, Below w.heap.size w W → Calls Tryd.prog 47 #[.string p1] W fun e w' => e = .returned (.string p2) ∧ Below W.heap.size W w') ∨ (hh1 = false ∧ preS p1.data.toList = false ∧ p1 = p2)) := by
          cases hh1 with
          | true =>
            have hq := hfp (.inl rfl)
            exact ⟨bar (undotU p1.data.toList), rfl, by rw [bar_size]; omega, .inl ⟨rfl, fun W h => rdots_any p1 W (hM.below h) (by omega) hq⟩⟩
          | false =>
            cases hps : preS p1.data.toList with
            | true =>
              refine ⟨bar (undotU p1.data.toList), ?_, by rw [bar_size]; omega, .inr (.inl ⟨rfl, rfl, fun W h => rdots_any p1 W (hM.below h) (by omega) (.inr hps)⟩)⟩
              unfold undU
              rw [if_pos (by show (false || preS p1.data.toList) = true; rw [hps]; rfl)]
              rfl
            | false =>
              refine ⟨p1, ?_, by omega, .inr (.inr ⟨rfl, rfl, rfl⟩)⟩
              unfold undU
              rw [if_neg (by show ¬ (false || preS p1.data.toList) = true; rw [hps]; simp)]
        rw [hund]
        have HR := end_at ⟨s1, hh1, h1, p2, hq1, q1, uhf, uf⟩ _ rfl
        refine (rled_walk bs bh bp bq bf us uh up uq uf s1 h1 p1 q1 (dirD bp bhh) p2 bhh bhq bhf uhh uhq uhf hh1 hq1 (preS up.data.toList) (preS p1.data.toList) (preSS p2.data.toList) (Lib.lastIndexByte bp 47) _ _ (checkU (UV.l ⟨s1, hh1, h1, p2, hq1, q1, uhf, uf⟩)) w hse XF (fun _ => dirD_at bp bhh) b3 u3 (by omega) CL CB CU (fun W => pre_one up W) CQ (fun W => pre_one p1 W) (fun W h => rchk_any ⟨s1, hh1, h1, p2, hq1, q1, uhf, uf⟩ (by unfold maxLen; exact ⟨by simp only; omega, by simp only; omega, by simp only; omega, by simp only; omega, by simp only; omega⟩) W (hM.below h)) (fun W => pre_two p2 W) HR).mono ?_
        rintro e w' ⟨rfl, hb⟩
        exact ⟨rfl, hb⟩
    · rw [if_neg (by simpa using hcb), if_pos hcu]
      rw [hcb] at CB
      refine (rled_u bs bh bp bq bf us uh up uq uf bhh bhq bhf uhh uhq uhf _ hcu w CB CU).mono ?_
      rintro e w' ⟨rfl, hb⟩
      exact ⟨rfl, hb⟩
  · rw [if_pos hcb]
    refine (rled_b bs bh bp bq bf us uh up uq uf bhh bhq bhf uhh uhq uhf _ hcb w CB).mono ?_
    rintro e w' ⟨rfl, hb⟩
    exact ⟨rfl, hb⟩
end Go.Proofs.YtnfidloiediflabDoor

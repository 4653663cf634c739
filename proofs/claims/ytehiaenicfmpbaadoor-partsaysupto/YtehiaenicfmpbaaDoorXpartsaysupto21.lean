/- slices.Equal at []int answers whether the two lists of numbers are one; the world is as it was but for draws. Conditions: the cells of both lie there. -/
import Derived.Test.YtehiaenicfmpbaaDoorXpartsaysupto9
import Derived.Test.YtehiaenicfmpbaaDoorXpartsaysupto14
namespace Go.Proofs.YtehiaenicfmpbaaDoor
open Go.RowKit

set_option maxHeartbeats 1000000 in
theorem equalInts (p1 p2 : Option Addr) (n m c d : Nat) (xs ys : List Int) (w : World) (hn : n ≤ maxLen) (hm : m ≤ maxLen) (h1 : Row .i64 w p1 n xs) (h2 : Row .i64 w p2 m ys) :
    Calls Tryd.prog 68 #[.slice p1 n c, .slice p2 m d] w fun e w' => e = .returned (.bool (decide (xs = ys))) ∧ ∃ q, w' = w.drewN q := by
  unfold maxLen at hn hm
  obtain ⟨hx, r1⟩ := h1
  obtain ⟨hy, r2⟩ := h2
  by_cases hnm : n = m
  · subst hnm
    by_cases h0 : n = 0
    · subst h0
      have exy : xs = ys := by rw [List.eq_nil_of_length_eq_zero hx, List.eq_nil_of_length_eq_zero hy]
      have hfin : decide (xs = ys) = true := by simp [exy]
      rw [hfin]
      clear r1 r2 exy hfin hx hy
      go_enter Tryd.func68, Tryd.ntmps68
      go_wp2
      refine wp_loop_rounds 1 ?_
      rw [rounds_succ]
      go_wp2
      go_ret
      exact ⟨rfl, 0, rfl⟩
    · obtain ⟨b1, o1, rfl, k1⟩ := r1 h0
      obtain ⟨b2, o2, rfl, k2⟩ := r2 h0
      clear r1 r2
      go_enter Tryd.func68, Tryd.ntmps68
      go_wp2
      go_loopg [13] n (fun g s13 wr => ∃ k q : Nat, k ≤ n ∧ n - k ≤ g ∧ s13 = .int .i64 k ∧ wr = w.drewN q ∧ ∀ j, j < k → xs.getD j 0 = ys.getD j 0)
      case atStart => exact ⟨0, 0, Nat.zero_le _, by omega, rfl, rfl, fun j hj => absurd hj (Nat.not_lt_zero _)⟩
      case round =>
        obtain ⟨k, q, hk, hg, rfl, rfl, heq⟩ := hrel
        by_cases hlt : k < n
        · have g1 : w.cell? ⟨b1, o1 + k, none⟩ = some (.int .i64 (xs.getD k 0)) := k1 k hlt
          have g2 : w.cell? ⟨b2, o2 + k, none⟩ = some (.int .i64 (ys.getD k 0)) := k2 k hlt
          have A : Hid (∀ j, j < k → xs.getD j 0 = ys.getD j 0) := heq
          clear heq k1 k2
          generalize hxk : xs.getD k 0 = x at g1
          generalize hyk : ys.getD k 0 = y at g2
          have B : Hid (xs.getD k 0 = x ∧ ys.getD k 0 = y) := ⟨hxk, hyk⟩
          clear hxk hyk
          by_cases hxy : x = y
          · subst hxy
            go_wp2_with fail
            go_quiet (fail)
            go_wp2
            go_roundg (n - (k + 1))
            case measure => omega
            case rel =>
              refine ⟨k + 1, q + nq, by omega, by omega, by go_num, rfl, fun j hj => ?_⟩
              by_cases e : j = k
              · subst e
                rw [B.out.1, B.out.2]
              · exact A.out j (by omega)
          · go_wp2_with fail
            go_quiet (fail)
            go_wp2
            go_ret
            refine ⟨ret_bool ?_, q + nq, World.drewN_drewN _ _ _⟩
            symm
            rw [decide_eq_false_iff_not]
            intro e
            apply hxy
            rw [← B.out.1, ← B.out.2, e]
        · have : k = n := by omega
          subst this
          have hfin : Hid (decide (xs = ys) = true) := by simp [Hid, eq_of_getD hx hy heq]
          clear k1 k2 heq
          go_wp2
          go_ret
          exact ⟨ret_bool hfin.out.symm, q, rfl⟩
  · have hnm' : ¬ (n : Int) = (m : Int) := by omega
    have hfin : decide (xs = ys) = false := by
      rw [decide_eq_false_iff_not]
      intro e
      apply hnm
      rw [← hx, ← hy, e]
    rw [hfin]
    clear r1 r2 hfin
    go_enter Tryd.func68, Tryd.ntmps68
    go_wp2
    go_ret
    exact ⟨rfl, 0, rfl⟩
end Go.Proofs.YtehiaenicfmpbaaDoor

/- The law's closed fact: parted answers true; nothing that was there is changed. -/
namespace Go.Proofs.YtehiaenicfmpbaaDoor
open Go.RowKit

def lone : PT := ⟨⟨#[109, 117, 108, 116, 105, 112, 97, 114, 116, 47, 120]⟩, ⟨#[]⟩, ⟨#[]⟩, ⟨#[]⟩, 0, [], []⟩
set_option maxRecDepth 100000 in
theorem small_places : placesP smallT = (0, [(smallT, -1), (partA, 0), (partB, 0)]) := by kernel_rfl
set_option maxRecDepth 100000 in
theorem lone_places : (placesP lone).1 = 4 := by kernel_rfl
theorem type_ab : typeS [97, 47, 98] = true := by kernel_rfl
theorem type_aB : typeS [97, 47, 66] = false := by kernel_rfl

theorem IRow.row {w : World} {q : Option Addr} {l : List Int} (h : IRow w q l) : Row .i64 w q l.length l := by
  refine ⟨rfl, fun h0 => ?_⟩
  obtain ⟨b, o, e, hc⟩ := h (fun e => h0 (by rw [e]; rfl))
  exact ⟨b, o, e, hc⟩

theorem lone_held (w : World) : PHeld w 0 lone none 0 none 0 := ⟨lens _ (by decide), ⟨by decide, by decide, fun _ => rfl⟩, fun h => absurd rfl h, ⟨by decide, by decide, fun _ => rfl⟩, rfl⟩

set_option maxHeartbeats 2000000 in
set_option maxRecDepth 100000 in
theorem parted_any (w : World) : Calls Tryd.prog 56 #[] w fun e w' => e = .returned (.bool true) ∧ Below w.heap.size w w' := by
  have CA : Hid (∀ g w', PHeld w' 1 smallT none 0 (some ⟨g, 0, none⟩) 2 → Calls Tryd.prog 53 #[.agg #[.string smallT.ty, .string smallT.cs, .string smallT.id, .string smallT.loc, .int .i64 smallT.how, .slice none smallT.body.length 0, .slice (some ⟨g, 0, none⟩) smallT.kids.length 2]] w' fun e w'' => AllPost w' (0, [(smallT, -1), (partA, 0), (partB, 0)]) e w'') := fun g w' h => by
    have := all_any smallT none 0 (some ⟨g, 0, none⟩) 2 1 w' h
    rwa [small_places] at this
  have CW : Hid (∀ g w', PHeld w' 1 smallT none 0 (some ⟨g, 0, none⟩) 2 → Calls Tryd.prog 54 #[.agg #[.string smallT.ty, .string smallT.cs, .string smallT.id, .string smallT.loc, .int .i64 smallT.how, .slice none smallT.body.length 0, .slice (some ⟨g, 0, none⟩) smallT.kids.length 2]] w' fun e w'' => WithinPost w' (0, [(smallT, -1), (partA, 0), (partB, 0)]) e w'') := fun g w' h => by
    have := within_any smallT none 0 (some ⟨g, 0, none⟩) 2 1 w' h
    rwa [small_places] at this
  have CC : Hid (∀ w', Calls Tryd.prog 57 #[.agg #[.string ⟨#[109, 117, 108, 116, 105, 112, 97, 114, 116, 47, 120]⟩, .string ⟨#[]⟩, .string ⟨#[]⟩, .string ⟨#[]⟩, .int .i64 0, .slice none 0 0, .slice none 0 0]] w' fun e w'' => e = .returned (.int .i64 4) ∧ Below w'.heap.size w' w'') := fun w' => by
    have := pcheck_any lone none 0 none 0 0 w' (lone_held w')
    rw [lone_places] at this
    exact this
  have C1 : Hid (∀ w', Calls Tryd.prog 60 #[.string ⟨#[97, 47, 98]⟩] w' fun e w'' => e = .returned (.bool true) ∧ Below w'.heap.size w' w'') := fun w' => by
    have := ptype_any ⟨#[97, 47, 98]⟩ w' (by decide)
    rw [show typeS (ByteArray.mk #[97, 47, 98]).data.toList = true from type_ab] at this
    exact this
  have C2 : Hid (∀ w', Calls Tryd.prog 60 #[.string ⟨#[97, 47, 66]⟩] w' fun e w'' => e = .returned (.bool false) ∧ Below w'.heap.size w' w'') := fun w' => by
    have := ptype_any ⟨#[97, 47, 66]⟩ w' (by decide)
    rw [show typeS (ByteArray.mk #[97, 47, 66]).data.toList = false from type_aB] at this
    exact this
  go_enter Tryd.func56, Tryd.ntmps56
  go_wp2_with fail
  refine (psmall_any _).mono ?_
  rintro e w1 ⟨g1, rfl, hh1, hb1⟩
  go_wp2_with fail
  refine (CA.out g1 w1 hh1).mono ?_
  rintro e w2 ⟨hb2, -, hok⟩
  obtain ⟨q2, c2, rfl, hc2, -, -, hk2⟩ := hok rfl
  have hbel2 := hb1.trans (hb2.mono hb1.size)
  clear hok hb1 hb2 hh1
  go_wp2_with fail
  refine (psmall_any _).mono ?_
  rintro e w3 ⟨g3, rfl, hh3, hb3⟩
  have hk3 := KAt.below hb3 _ _ _ hk2
  have hbel3 := hbel2.trans (hb3.mono hbel2.size)
  clear hb3 hk2 hbel2
  go_wp2_with fail
  refine (CW.out g3 w3 hh3).mono ?_
  rintro e w4 ⟨hb4, -, hok⟩
  obtain ⟨q4, c4, rfl, hc4, -, -, hi4⟩ := hok rfl
  have hk4 := KAt.below hb4 _ _ _ hk3
  have hbel4 := hbel3.trans (hb4.mono hbel3.size)
  clear hok hb4 hk3 hbel3 hh3
  obtain ⟨bl, ol, rfl, hkk⟩ := hk4.each (by simp)
  obtain ⟨pb, cb, pk, ck, hC, hH⟩ := hkk 0 (by simp)
  have c6 : w4.cell? ⟨bl, ol + 6, none⟩ = some (.slice pk 0 ck) := by have := hC.2.2.2.2.2.2; rw [Nat.zero_mul, Nat.add_zero] at this; exact this
  have hr4 : Row .i64 w4 q4 3 [-1, 0, 0] := hi4.row
  have CE : Hid (∀ w', Below w4.heap.size w4 w' → Row .i64 w' q4 3 [-1, 0, 0]) := fun w' hb => (hi4.below hb).row
  clear hkk hC hH hr4 hi4 hk4 CA CW
  simp only [List.length_cons, List.length_nil] at *
  go_wp2_with fail
  refine (equalInts q4 (some ⟨w4.heap.size, 0, none⟩) 3 3 c4 3 [-1, 0, 0] [-1, 0, 0] _ (by decide) (by decide) (CE.out _ ((Below.refl _ _).alloc (Nat.le_refl _) _)) ⟨rfl, fun _ => ⟨w4.heap.size, 0, rfl, fun i hi => ?_⟩⟩).mono ?_
  · match i, hi with
    | 0, _ => simp
    | 1, _ => simp
    | 2, _ => simp
  rintro e w5 ⟨rfl, nq, rfl⟩
  have hbel5 : Below w.heap.size w ((w4.alloc (.cells #[.int .i64 (-1), .int .i64 0, .int .i64 0] 3)).drewN nq) := below_drewN' (hbel4.alloc hbel4.size _) nq
  clear CE
  go_wp2_with fail
  refine (CC.out _).mono ?_
  rintro e w6 ⟨rfl, hb6⟩
  have hbel6 := hbel5.trans (hb6.mono hbel5.size)
  clear hb6 hbel5
  go_wp2_with fail
  refine (C1.out _).mono ?_
  rintro e w7 ⟨rfl, hb7⟩
  have hbel7 := hbel6.trans (hb7.mono hbel6.size)
  clear hb7 hbel6
  go_wp2_with fail
  refine (C2.out _).mono ?_
  rintro e w8 ⟨rfl, hb8⟩
  have hbel8 := hbel7.trans (hb8.mono hbel7.size)
  clear hb8 hbel7
  go_wp2_with fail
  go_ret
  exact ⟨rfl, hbel8⟩
end Go.Proofs.YtehiaenicfmpbaaDoor

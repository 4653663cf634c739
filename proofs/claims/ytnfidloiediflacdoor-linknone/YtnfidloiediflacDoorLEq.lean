/- slices.Equal of links, slices.Contains of a byte: what the plain functions say; all is as it was but for draws. -/
import Derived.Test.YtnfidloiediflacDoorCommon
namespace Go.Proofs.YtnfidloiediflacDoor
open Go.RowKit

/-- Links as numbers and texts. -/
abbrev L3 := Int × Int × ByteArray
def z3 : L3 := (0, 0, ⟨#[]⟩)
/-- They lie there. -/
def T3Row (w : World) (p : Option Addr) (n : Nat) (l : List L3) : Prop := l.length = n ∧ (n ≠ 0 → ∃ b o, p = some ⟨b, o, none⟩ ∧ ∀ i, i < n → w.cell? ⟨b, o + i * 3, none⟩ = some (.int .i64 (l.getD i z3).1) ∧ w.cell? ⟨b, o + i * 3 + 1, none⟩ = some (.int .i64 (l.getD i z3).2.1) ∧ w.cell? ⟨b, o + i * 3 + 2, none⟩ = some (.string (l.getD i z3).2.2))
theorem eq_of_get3 {xs ys : List L3} {n : Nat} (hx : xs.length = n) (hy : ys.length = n) (h : ∀ j, j < n → xs.getD j z3 = ys.getD j z3) : xs = ys := by
  apply List.ext_getElem (by omega)
  intro i h1 h2
  have := h i (by omega)
  simpa [List.getD_eq_getElem?_getD, List.getElem?_eq_getElem h1, List.getElem?_eq_getElem h2] using this
set_option maxHeartbeats 2000000 in
set_option maxRecDepth 100000 in
theorem equalLinks (p1 p2 : Option Addr) (n m c d : Nat) (xs ys : List L3) (w : World) (hn : n ≤ 100000) (hm : m ≤ 100000) (h1 : T3Row w p1 n xs) (h2 : T3Row w p2 m ys) :
    Calls Tryd.prog 11 #[.slice p1 n c, .slice p2 m d] w fun e w' => e = .returned (.bool (decide (xs = ys))) ∧ ∃ q, w' = w.drewN q := by
  obtain ⟨hx, r1⟩ := h1
  obtain ⟨hy, r2⟩ := h2
  by_cases hnm : n = m
  · subst hnm
    by_cases h0 : n = 0
    · subst h0
      have exy : xs = ys := by rw [List.eq_nil_of_length_eq_zero hx, List.eq_nil_of_length_eq_zero hy]
      have hfin : decide (xs = ys) = true := by simp [exy]
      rw [hfin]
      clear r1 r2 exy hfin hx hy
      go_enter Tryd.func11, Tryd.ntmps11
      go_wp2
      refine wp_loop_rounds 1 ?_
      rw [rounds_succ]
      go_wp2
      go_ret
      exact ⟨rfl, 0, rfl⟩
    · obtain ⟨b1, o1, rfl, k1⟩ := r1 h0
      obtain ⟨b2, o2, rfl, k2⟩ := r2 h0
      have HX : Hid (xs.length = n ∧ ys.length = n) := ⟨hx, hy⟩
      clear r1 r2 hx hy
      go_enter Tryd.func11, Tryd.ntmps11
      go_wp2
      go_loopg [13] n (fun g s13 wr => ∃ k q : Nat, k ≤ n ∧ n - k ≤ g ∧ s13 = .int .i64 k ∧ wr = w.drewN q ∧ Hid (∀ j, j < k → xs.getD j z3 = ys.getD j z3))
      case atStart => exact ⟨0, 0, Nat.zero_le _, by omega, rfl, rfl, fun j hj => absurd hj (Nat.not_lt_zero _)⟩
      case round =>
        obtain ⟨k, q, hk, hg, rfl, rfl, A⟩ := hrel
        by_cases hlt : k < n
        · obtain ⟨g1, g2, g3⟩ := k1 k hlt
          obtain ⟨g4, g5, g6⟩ := k2 k hlt
          clear k1 k2
          generalize hxk : xs.getD k z3 = x at g1 g2 g3
          generalize hyk : ys.getD k z3 = y at g4 g5 g6
          have B : Hid (xs.getD k z3 = x ∧ ys.getD k z3 = y) := ⟨hxk, hyk⟩
          clear hxk hyk
          obtain ⟨xf, xt, xs'⟩ := x
          obtain ⟨yf, yt, ys'⟩ := y
          simp only at g1 g2 g3 g4 g5 g6
          by_cases hxy : xf = yf ∧ xt = yt ∧ xs' = ys'
          · obtain ⟨rfl, rfl, rfl⟩ := hxy
            go_wp2_with fail
            go_quiet (fail)
            go_wp2
            go_roundg (n - (k + 1))
            case measure => omega
            case rel =>
              refine ⟨k + 1, q + nq, by omega, by omega, by go_num, rfl, fun j hj => ?_⟩
              by_cases e : j = k
              · subst e
                rw [B.out.1, B.out.2]
              · exact A.out j (by omega)
          · have HXY : Hid (¬ xs = ys) := fun e => hxy (by
              have h1 := B.out.1
              rw [e, B.out.2] at h1
              cases h1
              exact ⟨rfl, rfl, rfl⟩)
            by_cases h1 : xf = yf
            · subst h1
              by_cases h2 : xt = yt
              · subst h2
                have h3 : ¬ xs' = ys' := fun e => hxy ⟨rfl, rfl, e⟩
                have h3'' : (xs'.toList == ys'.toList) = false := by
                  rw [beq_eq_false_iff_ne, ByteArray.toList_eq, ByteArray.toList_eq]
                  exact fun e => h3 (ByteArray.ext (Array.toList_inj.1 e))
                clear hxy A
                go_wp2_with fail
                go_quiet (fail)
                go_wp2
                go_ret
                refine ⟨ret_bool ?_, q + nq, World.drewN_drewN _ _ _⟩
                symm
                rw [decide_eq_false_iff_not]
                exact HXY.out
              · clear hxy A
                go_wp2_with fail
                go_quiet (fail)
                go_wp2
                go_ret
                refine ⟨ret_bool ?_, q + nq, World.drewN_drewN _ _ _⟩
                symm
                rw [decide_eq_false_iff_not]
                exact HXY.out
            · clear hxy A
              go_wp2_with fail
              go_quiet (fail)
              go_wp2
              go_ret
              refine ⟨ret_bool ?_, q + nq, World.drewN_drewN _ _ _⟩
              symm
              rw [decide_eq_false_iff_not]
              exact HXY.out
        · have : k = n := by omega
          subst this
          have hfin : Hid (decide (xs = ys) = true) := by simp [Hid, eq_of_get3 HX.out.1 HX.out.2 A.out]
          clear k1 k2 A
          go_wp2
          go_ret
          exact ⟨ret_bool hfin.out.symm, q, rfl⟩
  · have hnm' : ¬ (n : Int) = (m : Int) := by omega
    have hfin : decide (xs = ys) = false := by
      rw [decide_eq_false_iff_not]
      intro e
      apply hnm
      rw [← hx, ← hy, e]
    rw [hfin]
    clear r1 r2 hfin
    go_enter Tryd.func11, Tryd.ntmps11
    go_wp2
    go_ret
    exact ⟨rfl, 0, rfl⟩
/-- A place, or none. -/
def Tells (i : Int) (L : List UInt8) (d : UInt8) : Prop := decide (0 ≤ i) = L.contains d
set_option maxHeartbeats 1000000 in
theorem indexByte_any (p : Option Addr) (n c : Nat) (L : List UInt8) (en : n = L.length) (d : UInt8) (dd : Int) (ed : dd = (d.toNat : Int)) (w : World) (hn : n ≤ 1000000) (hr : BRow w p L) :
    Calls Tryd.prog 16 #[.slice p n c, .int .u8 dd] w fun e w' => ∃ i : Int, e = .returned (.int .i64 i) ∧ Tells i L d ∧ w' = w := by
  subst ed
  have HL : Hid (n = L.length) := en
  have HR : Hid (BRow w p L) := hr
  clear en hr
  go_enter Tryd.func16, Tryd.ntmps16
  go_wp2
  go_loop [8] (fun iv => ∃ k : Nat, k ≤ n ∧ iv = .int .i64 k ∧ Hid (L.contains d = (L.drop k).contains d)) (fun iv => n - (intOf iv).toNat)
  case atStart => exact ⟨0, Nat.zero_le _, rfl, rfl⟩
  case round =>
    obtain ⟨k, hk, rfl, HK⟩ := hrel
    by_cases hlt : k < n
    · have hkl : k < L.length := by rw [← HL.out]; exact hlt
      obtain ⟨b, o, rfl, hc⟩ := HR.out (fun e => by rw [e] at hkl; simp at hkl)
      have h1 := hc k hkl
      have hdr : L.drop k = L.getD k 0 :: L.drop (k + 1) := by
        rw [List.drop_eq_getElem_cons hkl]
        simp [List.getD_eq_getElem?_getD, List.getElem?_eq_getElem hkl]
      have HD : Hid (L.contains d = (d == L.getD k 0 || (L.drop (k + 1)).contains d)) := by unfold Hid; rw [HK.out, hdr]; rfl
      clear hc hdr HK
      generalize L.getD k 0 = x at *
      by_cases he : d = x
      · subst he
        have HN : Hid (L.contains d = true) := by unfold Hid; rw [HD.out]; simp
        clear HD
        go_wp2
        go_ret
        exact ⟨_, rfl, by unfold Tells; rw [HN.out]; simp, rfl⟩
      · have HN : Hid (L.contains d = (L.drop (k + 1)).contains d) := by
          unfold Hid
          rw [HD.out, show (d == x) = false from by simpa using he]
          rfl
        have he' : ¬ (d.toNat : Int) = (x.toNat : Int) := fun e => he (UInt8.toNat_inj.1 (by omega))
        clear HD he
        go_wp2
        go_round
        case rel => exact ⟨k + 1, by omega, by go_num, HN⟩
        case measure => simp [intOf]; omega
    · obtain rfl : k = n := by omega
      have HN : Hid (L.contains d = false) := by unfold Hid; rw [HK.out, HL.out, List.drop_of_length_le (Nat.le_refl _)]; rfl
      clear HK
      go_wp2
      go_ret
      exact ⟨_, rfl, by unfold Tells; rw [HN.out]; rfl, rfl⟩
set_option maxHeartbeats 1000000 in
theorem contains_any (p : Option Addr) (n c : Nat) (L : List UInt8) (en : n = L.length) (d : UInt8) (dd : Int) (ed : dd = (d.toNat : Int)) (w : World) (hn : n ≤ 1000000) (hr : BRow w p L) :
    Calls Tryd.prog 8 #[.slice p n c, .int .u8 dd] w fun e w' => e = .returned (.bool (L.contains d)) ∧ w' = w := by
  have HC : Hid (∀ W, W = w → Calls Tryd.prog 16 #[.slice p n c, .int .u8 dd] W fun e w' => ∃ i : Int, e = .returned (.int .i64 i) ∧ Tells i L d ∧ w' = W) := fun W e => by subst e; exact indexByte_any p n c L en d dd ed W hn hr
  clear en ed hr
  go_enter Tryd.func8, Tryd.ntmps8
  go_wp2_with fail
  refine (HC.out _ rfl).mono ?_
  rintro e w1 ⟨i, rfl, HI, hw1⟩
  have hw2 := hw1.symm
  subst hw2
  go_wp2_with fail
  go_ret
  exact ⟨ret_bool HI, rfl⟩
end Go.Proofs.YtnfidloiediflacDoor

/- slices.Equal of fields: whether they are the same; nothing that was there is changed. Conditions: the fields lie there. -/
import Derived.Test.YtnmmlbgadibimaaDoorChecks
import Derived.Laws.StructEq
namespace Go.Proofs.YtnmmlbgadibimaaDoor
open Go.RowKit

theorem eqFld (a b c d : ByteArray) (w : World) : (Op.equalIn 10000 51 (.agg #[.string a, .string b]) (.agg #[.string c, .string d])).run Tryd.prog w = .ok (a.toList == c.toList && b.toList == d.toList) w := by
  have u9 := Tryd.underlying9
  have hS : Tryd.prog.underlying 51 = some (.struct (Tryd.prog.fieldsOf 51)) := by kernel_rfl
  have hp : Tryd.prog.stoodInHeld 51 = false := by kernel_rfl
  rw [show (10000 : Nat) = 9999 + 1 from rfl, run_equalIn_agg w 9999 51 _ _ hS hp]
  simp only [Program.fieldsOf, Tryd.underlying51]
  go_simp
  by_cases h1 : a.toList = c.toList <;> by_cases h2 : b.toList = d.toList <;> simp [h1, h2]

def eqV (l k : List FV) : Bool := decide (l.map fl = k.map fl)
theorem bytes_beq (a b : ByteArray) : (a.toList == b.toList) = decide (a.data.toList = b.data.toList) := by
  rw [ByteArray.toList_eq, ByteArray.toList_eq, Bool.eq_iff_iff]; simp
theorem eqV_cons (a b : FV) (l k : List FV) : eqV (a :: l) (b :: k) = ((a.1.toList == b.1.toList && a.2.toList == b.2.toList) && eqV l k) := by
  unfold eqV
  rw [bytes_beq, bytes_beq, Bool.eq_iff_iff]
  simp [fl]

theorem feq_len (p q : Option Addr) (n c m d : Nat) (w : World) (h : n ≠ m) :
    Calls Tryd.prog 42 #[.slice p n c, .slice q m d] w fun e w' => e = .returned (.bool false) ∧ w' = w := by
  have h' : ((n : Int) == (m : Int)) = false := by rw [beq_eq_false_iff_ne]; omega
  have h2 : ¬ (n : Int) = (m : Int) := by omega
  go_enter Tryd.func42, Tryd.ntmps42
  go_wp2
  go_ret
  exact ⟨rfl, rfl⟩

theorem feq_nil (p q : Option Addr) (c d : Nat) (w : World) :
    Calls Tryd.prog 42 #[.slice p 0 c, .slice q 0 d] w fun e w' => e = .returned (.bool true) ∧ w' = w := by
  go_enter Tryd.func42, Tryd.ntmps42
  go_wp2
  refine wp_loop_rounds 1 ?_
  rw [rounds_succ]
  go_wp2
  go_ret
  exact ⟨rfl, rfl⟩

set_option maxHeartbeats 2000000 in
theorem feq_some (b o b2 o2 n c d : Nat) (l k : List FV) (en : n = l.length) (em : n = k.length) (w : World) (h0 : 1 ≤ n) (hn : n ≤ maxLen)
    (hc : ∀ i, i < n → w.cell? ⟨b, o + i * 2, none⟩ = some (.string (l.getD i default).1) ∧ w.cell? ⟨b, o + i * 2 + 1, none⟩ = some (.string (l.getD i default).2))
    (hd : ∀ i, i < n → w.cell? ⟨b2, o2 + i * 2, none⟩ = some (.string (k.getD i default).1) ∧ w.cell? ⟨b2, o2 + i * 2 + 1, none⟩ = some (.string (k.getD i default).2)) :
    Calls Tryd.prog 42 #[.slice (some ⟨b, o, none⟩) n c, .slice (some ⟨b2, o2, none⟩) n d] w fun e w' => e = .returned (.bool (eqV l k)) ∧ Below w.heap.size w w' := by
  unfold maxLen at hn
  have hbB : b < w.heap.size := World.block_lt_of_cell? w _ (hc 0 (by omega)).1
  have hbB2 : b2 < w.heap.size := World.block_lt_of_cell? w _ (hd 0 (by omega)).1
  have HL : Hid (n = l.length) := en
  have HM : Hid (n = k.length) := em
  have heq := eqFld
  have hgd : Tryd.prog.eqGuardType Tryd.prog.depth 51 = false := by kernel_rfl
  clear en em
  go_enter Tryd.func42, Tryd.ntmps42
  go_wp2
  go_loopw [13] (fun iv wr => ∃ j : Nat, j ≤ n ∧ iv = .int .i64 j ∧ Below w.heap.size w wr ∧ Hid (eqV (l.drop j) (k.drop j) = eqV l k)) (fun iv _ => n - (intOf iv).toNat)
  case atStart => exact ⟨0, Nat.zero_le _, rfl, Below.refl _ _, rfl⟩
  case round =>
    obtain ⟨j, hj, rfl, hbel, HK⟩ := hrel
    have hsz := hbel.size
    by_cases hlt : j < n
    · have hc1 : wr.cell? ⟨b, o + j * 2, none⟩ = some (.string (l.getD j default).1) := (hbel.cell (p := ⟨b, o + j * 2, none⟩) hbB).trans (hc j hlt).1
      have hc2 : wr.cell? ⟨b, o + j * 2 + 1, none⟩ = some (.string (l.getD j default).2) := (hbel.cell (p := ⟨b, o + j * 2 + 1, none⟩) hbB).trans (hc j hlt).2
      have hd1 : wr.cell? ⟨b2, o2 + j * 2, none⟩ = some (.string (k.getD j default).1) := (hbel.cell (p := ⟨b2, o2 + j * 2, none⟩) hbB2).trans (hd j hlt).1
      have hd2 : wr.cell? ⟨b2, o2 + j * 2 + 1, none⟩ = some (.string (k.getD j default).2) := (hbel.cell (p := ⟨b2, o2 + j * 2 + 1, none⟩) hbB2).trans (hd j hlt).2
      have hdr : Hid (eqV l k = (((l.getD j default).1.toList == (k.getD j default).1.toList && (l.getD j default).2.toList == (k.getD j default).2.toList) && eqV (l.drop (j + 1)) (k.drop (j + 1)))) := by
        unfold Hid; rw [← HK.out, fv_at l j (by rw [← HL.out]; exact hlt), fv_at k j (by rw [← HM.out]; exact hlt), eqV_cons]
      clear hc hd HK
      generalize l.getD j default = f at *
      generalize k.getD j default = g at *
      obtain ⟨A, B⟩ := f
      obtain ⟨C, D⟩ := g
      simp only at hc1 hc2 hd1 hd2 hdr
      cases hq : (A.toList == C.toList && B.toList == D.toList)
      · have HN : Hid (eqV l k = false) := by unfold Hid; rw [hdr.out, hq]; rfl
        have heq' : ∀ w : World, (Op.equalIn 10000 51 (.agg #[.string A, .string B]) (.agg #[.string C, .string D])).run Tryd.prog w = .ok false w := fun w => by rw [← hq]; exact eqFld A B C D w
        clear hdr hq heq
        go_wp2
        go_region
        go_wp2
        go_ret
        exact ⟨by rw [HN.out]; rfl, hbel.drew⟩
      · have HN : Hid (eqV (l.drop (j + 1)) (k.drop (j + 1)) = eqV l k) := by unfold Hid; rw [hdr.out, hq]; rfl
        have heq' : ∀ w : World, (Op.equalIn 10000 51 (.agg #[.string A, .string B]) (.agg #[.string C, .string D])).run Tryd.prog w = .ok true w := fun w => by rw [← hq]; exact eqFld A B C D w
        clear hdr hq heq
        go_wp2
        go_region
        go_wp2
        go_roundw
        case rel => exact ⟨j + 1, by omega, by go_num, hbel.drew, HN⟩
        case measure => simp [intOf]; omega
    · obtain rfl : j = n := by omega
      have HN : Hid (eqV l k = true) := by unfold Hid; rw [← HK.out, HL.out, List.drop_length, ← HL.out, HM.out, List.drop_length]; rfl
      clear hc hd
      go_wp2
      go_ret
      exact ⟨by rw [HN.out]; rfl, hbel⟩

/-- slices.Equal of fields. -/
theorem feq_any (p q : Option Addr) (n c m d : Nat) (l k : List FV) (en : n = l.length) (em : m = k.length) (w : World) (hn : n ≤ maxLen) (hp : FRow w p l) (hq : FRow w q k) :
    Calls Tryd.prog 42 #[.slice p n c, .slice q m d] w fun e w' => e = .returned (.bool (eqV l k)) ∧ Below w.heap.size w w' := by
  by_cases h : n = m
  · subst h
    by_cases h0 : l = []
    · subst h0
      obtain rfl : n = 0 := en
      obtain rfl : k = [] := List.length_eq_zero_iff.1 em.symm
      refine (feq_nil p q c d w).mono ?_
      rintro e w' ⟨rfl, rfl⟩
      exact ⟨rfl, Below.refl _ _⟩
    · have h1 : 1 ≤ n := by rw [en]; exact List.length_pos_iff.2 h0
      obtain ⟨b, o, rfl, hc⟩ := hp h0
      obtain ⟨b2, o2, rfl, hd⟩ := hq (fun e => by rw [e] at em; simp at em; omega)
      rw [← en] at hc
      rw [← em] at hd
      exact feq_some b o b2 o2 n c d l k en em w h1 hn hc hd
  · refine (feq_len p q n c m d w h).mono ?_
    rintro e w' ⟨rfl, rfl⟩
    have : eqV l k = false := by
      unfold eqV
      rw [decide_eq_false_iff_not]
      intro e
      have := congrArg List.length e
      simp at this
      omega
    rw [this]
    exact ⟨rfl, Below.refl _ _⟩
end Go.Proofs.YtnmmlbgadibimaaDoor

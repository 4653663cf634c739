/- The walk of the law QuoteSays: it answers true, and nothing that was there is changed. Conditions: internal/bytealg.MaxLen holds some number; the table of math/bits holds 4 at its place 15. -/
import Derived.Test.YtnjicfhmheaccaaDoorQText
import Derived.Test.YtnjicfhmheaccaaDoorQRead
import Derived.Test.YtnjicfhmheaccaaDoorQuoted
import Derived.Test.YtnjicfhmheaccaaDoorEq
namespace Go.Proofs.YtnjicfhmheaccaaDoor
open Go.RowKit

set_option maxHeartbeats 1000000 in
theorem qsays_many (p : Option Addr) (n c : Nat) (s : ByteArray) (w : World) (hm : n ≤ maxLen) (h : 4000 < n) (hs : s.size ≤ maxLen) (m : Int) (hM : w.cell? ⟨0, 0, none⟩ = some (.int .i64 m)) (hMs : 0 < w.heap.size) :
    Calls Tryd.prog 4 #[.slice p n c, .string s] w fun e w' => e = .returned (.bool true) ∧ Below w.heap.size w w' := by
  have h' : (4000 : Int) < (n : Int) := by omega
  obtain ⟨out, ho⟩ : ∃ out, out = readQ s.data.toList := ⟨_, rfl⟩
  have A1 : Hid (∀ w, Calls Tryd.prog 14 #[.string s] w fun e w' => ReadPost w out e w') := fun w => by rw [ho]; exact dread_any s w hs
  have A2 : Hid (∀ w', Below w.heap.size w w' → Calls Tryd.prog 15 #[.string s] w' fun e w'' => ReadPost w' out e w'') := fun w' hb => by rw [ho]; exact qread_any s m w' hs ((hb.cell (p := ⟨0, 0, none⟩) hMs).trans hM)
  clear ho hM
  go_enter Tryd.func4, Tryd.ntmps4
  go_wp2_with fail
  refine (qwrite_many p n c _ h hm).mono ?_
  rintro e w1 ⟨rfl, hw1⟩
  have hb1 : Below w.heap.size w w1 := by rw [hw1]; exact Below.refl _ _
  clear hw1
  go_wp2_with fail
  refine (A1.out _).mono ?_
  rintro e w2 ⟨hb2, p2, c2, rfl, hd1, hd2, hrow2⟩
  go_wp2_with fail
  refine (A2.out _ (hb1.trans (hb2.mono hb1.size))).mono ?_
  rintro e w3 ⟨hb3, p3, c3, rfl, he1, he2, hrow3⟩
  clear A1 A2
  go_wp2_with fail
  refine (quoted_any _).mono ?_
  rintro e w5 ⟨rfl, hb5⟩
  have g2 := (hrow2.below hb3).below hb5
  have g3 := hrow3.below hb5
  have hb := ((hb1.trans (hb2.mono hb1.size)).trans (hb3.mono (Nat.le_trans hb1.size hb2.size))).trans (hb5.mono (Nat.le_trans hb1.size (Nat.le_trans hb2.size hb3.size)))
  clear hb1 hb2 hb3 hb5 hrow2 hrow3
  go_wp2_with fail
  refine (equalBytes p2 p3 _ _ c2 c3 _ _ _ (Nat.le_trans hd1 hd2) (Nat.le_trans he1 he2) (brow_row g2) (brow_row g3)).mono ?_
  rintro e w6 ⟨rfl, q, rfl⟩
  rw [show decide (nums out.1 = nums out.1) = true from by simp]
  have hb := bel_drew hb q
  clear g2 g3
  go_wp2
  go_ret
  exact ⟨rfl, hb⟩

set_option maxHeartbeats 1000000 in
theorem qsays_few (p : Option Addr) (c : Nat) (L : List UInt8) (s : ByteArray) (w : World) (h : L.length ≤ 4000) (hr : BRow w p L) (hs : s.size ≤ maxLen) (m : Int) (hM : w.cell? ⟨0, 0, none⟩ = some (.int .i64 m)) (hMs : 0 < w.heap.size) (hT : w.cell? ⟨8, 15, none⟩ = some (.int .u8 4)) (hTs : 8 < w.heap.size) :
    Calls Tryd.prog 4 #[.slice p L.length c, .string s] w fun e w' => e = .returned (.bool true) ∧ Below w.heap.size w w' := by
  have h' : ¬ (4000 : Int) < (L.length : Int) := by omega
  obtain ⟨out, ho⟩ : ∃ out, out = readQ s.data.toList := ⟨_, rfl⟩
  have A1 : Hid (∀ w, Calls Tryd.prog 14 #[.string s] w fun e w' => ReadPost w out e w') := fun w => by rw [ho]; exact dread_any s w hs
  have A2 : Hid (∀ w', Below w.heap.size w w' → Calls Tryd.prog 15 #[.string s] w' fun e w'' => ReadPost w' out e w'') := fun w' hb => by rw [ho]; exact qread_any s m w' hs ((hb.cell (p := ⟨0, 0, none⟩) hMs).trans hM)
  have A3 : Hid (∀ w', Below w.heap.size w w' → w'.cell? ⟨8, 15, none⟩ = some (.int .u8 4)) := fun w' hb => (hb.cell (p := ⟨8, 15, none⟩) hTs).trans hT
  clear ho hM hT
  go_enter Tryd.func4, Tryd.ntmps4
  go_wp2_with fail
  refine (qwrite_any p _ c L rfl _ h hr).mono ?_
  rintro e w1 ⟨rfl, hb1⟩
  go_wp2_with fail
  refine (A1.out _).mono ?_
  rintro e w2 ⟨hb2, p2, c2, rfl, hd1, hd2, hrow2⟩
  go_wp2_with fail
  refine (A2.out _ (hb1.trans (hb2.mono hb1.size))).mono ?_
  rintro e w3 ⟨hb3, p3, c3, rfl, he1, he2, hrow3⟩
  clear A1 A2
  go_wp2_with fail
  refine (quoted_any _).mono ?_
  rintro e w5 ⟨rfl, hb5⟩
  have g2 := (hrow2.below hb3).below hb5
  have g3 := hrow3.below hb5
  have hb := ((hb1.trans (hb2.mono hb1.size)).trans (hb3.mono (Nat.le_trans hb1.size hb2.size))).trans (hb5.mono (Nat.le_trans hb1.size (Nat.le_trans hb2.size hb3.size)))
  clear hb1 hb2 hb3 hb5 hrow2 hrow3
  go_wp2_with fail
  refine (equalBytes p2 p3 _ _ c2 c3 _ _ _ (Nat.le_trans hd1 hd2) (Nat.le_trans he1 he2) (brow_row g2) (brow_row g3)).mono ?_
  rintro e w6 ⟨rfl, q, rfl⟩
  rw [show decide (nums out.1 = nums out.1) = true from by simp]
  have hb := bel_drew hb q
  clear g2 g3
  have hrL : BRow _ p L := hr.below hb
  generalize (w5.drewN q) = w6 at hb hrL ⊢
  go_wp2_with fail
  refine (qtext_any p _ c L rfl _ h (A3.out _ hb) hrL).mono ?_
  rintro e w7 ⟨rfl, hb7⟩
  have hb := hb.trans (hb7.mono hb.size)
  clear hb7 hrL
  go_wp2
  go_ret
  exact ⟨rfl, hb⟩

/-- QuoteSays. -/
theorem qsays_any (p : Option Addr) (n c : Nat) (zs : List Int) (s : ByteArray) (w : World) (h : IsRow .u8 w p n c zs) (hs : s.size ≤ maxLen) (m : Int) (hM : w.cell? ⟨0, 0, none⟩ = some (.int .i64 m)) (hT : w.cell? ⟨8, 15, none⟩ = some (.int .u8 4)) :
    Calls Tryd.prog 4 #[.slice p n c, .string s] w fun e w' => e = .returned (.bool true) ∧ Below w.heap.size w w' := by
  obtain ⟨L, rfl, hcap, hcm, _, hr⟩ := isRow_bytes h
  have hMs := World.block_lt_of_cell? w _ hM
  have hTs := World.block_lt_of_cell? w _ hT
  by_cases h4 : 4000 < L.length
  · exact qsays_many p _ c s w (Nat.le_trans hcap hcm) h4 hs m hM hMs
  · exact qsays_few p c L s w (by omega) hr hs m hM hMs hT hTs
end Go.Proofs.YtnjicfhmheaccaaDoor

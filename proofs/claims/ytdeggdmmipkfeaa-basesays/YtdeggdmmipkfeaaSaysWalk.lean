/- The walk of the law BaseSays: it answers true, and nothing that was there is changed. -/
import Derived.Test.YtdeggdmmipkfeaaBText
import Derived.Test.YtdeggdmmipkfeaaBRead
namespace Go.Proofs.Ytdeggdmmipkfeaa
open Go.RowKit

def nums (l : List UInt8) : List Int := l.map fun c => (c.toNat : Int)
theorem brow_row {w : World} {p : Option Addr} {l : List UInt8} (h : BRow w p l) : Row .u8 w p l.length (nums l) := by
  refine ⟨by simp [nums], fun hn => ?_⟩
  obtain ⟨b, o, rfl, hc⟩ := h (fun e => hn (by rw [e]; rfl))
  refine ⟨b, o, rfl, fun i hi => ?_⟩
  rw [hc i hi]
  simp [nums, List.getD_eq_getElem?_getD, List.getElem?_eq_getElem hi]

theorem readS_len (l : List UInt8) : (readS l).1.length ≤ 4000 := by
  unfold readS
  split
  · simp
  · split
    · simp
    · split
      · simp
      · split
        · simp
        · simp only; omega

set_option maxHeartbeats 1000000 in
theorem says_many (p : Option Addr) (n c : Nat) (s : ByteArray) (w : World) (hm : n ≤ maxLen) (h : 4000 < n) (hs : s.size ≤ maxLen) :
    Calls Try.prog 4 #[.slice p n c, .string s] w fun e w' => e = .returned (.bool true) ∧ Below w.heap.size w w' := by
  have h' : (4000 : Int) < (n : Int) := by omega
  obtain ⟨out, ho⟩ : ∃ out, out = readS s.data.toList := ⟨_, rfl⟩
  have hl4 : out.1.length ≤ 4000 := by rw [ho]; exact readS_len _
  have A1 : Hid (∀ w, Calls Try.prog 8 #[.string s] w fun e w' => ReadPost w out e w') := fun w => by rw [ho]; exact read_any s w hs
  have A2 : Hid (∀ w, Calls Try.prog 9 #[.string s] w fun e w' => ReadPost w out e w') := fun w => by rw [ho]; exact bread_any s w hs
  clear ho
  go_enter Try.func4, Try.ntmps4
  go_wp2_with fail
  refine (write_many p n c _ h hm).mono ?_
  rintro e w1 ⟨rfl, hw1⟩
  have hb1 : Below w.heap.size w w1 := by rw [hw1]; exact Below.refl _ _
  clear hw1
  go_wp2_with fail
  refine (A1.out _).mono ?_
  rintro e w2 ⟨hb2, p2, c2, rfl, hd1, hd2, hrow2⟩
  go_wp2_with fail
  refine (A2.out _).mono ?_
  rintro e w3 ⟨hb3, p3, c3, rfl, he1, he2, hrow3⟩
  clear A1 A2
  go_wp2_with fail
  refine (lettered_any _).mono ?_
  rintro e w5 ⟨rfl, hb5⟩
  have g2 := (hrow2.below hb3).below hb5
  have g3 := hrow3.below hb5
  have hb := ((hb1.trans (hb2.mono hb1.size)).trans (hb3.mono (Nat.le_trans hb1.size hb2.size))).trans (hb5.mono (Nat.le_trans hb1.size (Nat.le_trans hb2.size hb3.size)))
  clear hb1 hb2 hb3 hb5 hrow2 hrow3
  go_wp2_with fail
  refine (equalBytes p2 p3 _ _ c2 c3 _ _ _ (Nat.le_trans hd1 hd2) (Nat.le_trans he1 he2) (brow_row g2) (brow_row g3)).mono ?_
  rintro e w6 ⟨rfl, q, rfl⟩
  rw [show decide (nums out.1 = nums out.1) = true from by simp]
  have hb := below_drewN hb q
  clear g2 g3
  go_wp2
  go_ret
  exact ⟨rfl, hb⟩

set_option maxHeartbeats 1000000 in
theorem says_few (p : Option Addr) (c : Nat) (L : List UInt8) (s : ByteArray) (w : World) (h : L.length ≤ 4000) (hcap : L.length ≤ c) (hr : BRow w p L) (hs : s.size ≤ maxLen) :
    Calls Try.prog 4 #[.slice p L.length c, .string s] w fun e w' => e = .returned (.bool true) ∧ Below w.heap.size w w' := by
  have h' : ¬ (4000 : Int) < (L.length : Int) := by omega
  obtain ⟨out, ho⟩ : ∃ out, out = readS s.data.toList := ⟨_, rfl⟩
  have hl4 : out.1.length ≤ 4000 := by rw [ho]; exact readS_len _
  have A1 : Hid (∀ w, Calls Try.prog 8 #[.string s] w fun e w' => ReadPost w out e w') := fun w => by rw [ho]; exact read_any s w hs
  have A2 : Hid (∀ w, Calls Try.prog 9 #[.string s] w fun e w' => ReadPost w out e w') := fun w => by rw [ho]; exact bread_any s w hs
  clear ho
  go_enter Try.func4, Try.ntmps4
  go_wp2_with fail
  refine (write_any p _ c L rfl _ h hcap hr).mono ?_
  rintro e w1 ⟨rfl, hb1⟩
  go_wp2_with fail
  refine (A1.out _).mono ?_
  rintro e w2 ⟨hb2, p2, c2, rfl, hd1, hd2, hrow2⟩
  go_wp2_with fail
  refine (A2.out _).mono ?_
  rintro e w3 ⟨hb3, p3, c3, rfl, he1, he2, hrow3⟩
  clear A1 A2
  go_wp2_with fail
  refine (lettered_any _).mono ?_
  rintro e w5 ⟨rfl, hb5⟩
  have g2 := (hrow2.below hb3).below hb5
  have g3 := hrow3.below hb5
  have hb := ((hb1.trans (hb2.mono hb1.size)).trans (hb3.mono (Nat.le_trans hb1.size hb2.size))).trans (hb5.mono (Nat.le_trans hb1.size (Nat.le_trans hb2.size hb3.size)))
  clear hb1 hb2 hb3 hb5 hrow2 hrow3
  go_wp2_with fail
  refine (equalBytes p2 p3 _ _ c2 c3 _ _ _ (Nat.le_trans hd1 hd2) (Nat.le_trans he1 he2) (brow_row g2) (brow_row g3)).mono ?_
  rintro e w6 ⟨rfl, q, rfl⟩
  rw [show decide (nums out.1 = nums out.1) = true from by simp]
  have hb := below_drewN hb q
  clear g2 g3
  have hrL : BRow _ p L := hr.below hb
  generalize (w5.drewN q) = w6 at hb hrL ⊢
  go_wp2_with fail
  refine (btext_any p _ c L rfl _ h hrL).mono ?_
  rintro e w7 ⟨rfl, hw7⟩
  have hw7' := hw7.symm
  subst hw7'
  go_wp2
  go_ret
  exact ⟨rfl, hb⟩

/-- BaseSays. -/
theorem says_any (p : Option Addr) (n c : Nat) (zs : List Int) (s : ByteArray) (w : World) (h : IsRow .u8 w p n c zs) (hs : s.size ≤ maxLen) :
    Calls Try.prog 4 #[.slice p n c, .string s] w fun e w' => e = .returned (.bool true) ∧ Below w.heap.size w w' := by
  obtain ⟨L, rfl, hcap, hcm, _, hr⟩ := isRow_bytes h
  by_cases h4 : 4000 < L.length
  · exact says_many p _ c s w (Nat.le_trans hcap hcm) h4 hs
  · exact says_few p c L s w (by omega) hcap hr hs
end Go.Proofs.Ytdeggdmmipkfeaa

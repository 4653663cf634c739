/- The walk of the law BaseBack: it answers true, and nothing that was there is changed. Condition: internal/bytealg.MaxLen holds some number. -/
import Derived.Test.YtdeggdmmipkfeaaDoorWide
namespace Go.Proofs.YtdeggdmmipkfeaaDoor
open Go.RowKit

def nums (l : List UInt8) : List Int := l.map fun c => (c.toNat : Int)
theorem brow_row {w : World} {p : Option Addr} {l : List UInt8} (h : BRow w p l) : Row .u8 w p l.length (nums l) := by
  refine ⟨by simp [nums], fun hn => ?_⟩
  obtain ⟨b, o, rfl, hc⟩ := h (fun e => hn (by rw [e]; rfl))
  refine ⟨b, o, rfl, fun i hi => ?_⟩
  rw [hc i hi]
  simp [nums, List.getD_eq_getElem?_getD, List.getElem?_eq_getElem hi]

theorem readS_len (l : List UInt8) : (readS l).1.length ≤ 4000 := by
  unfold readS
  split
  · simp
  · split
    · simp
    · split
      · simp
      · split
        · simp
        · simp only; omega

theorem read_back (L : List UInt8) (h : L.length ≤ 4000) (w : World) :
    Calls Tryd.prog 4 #[.string ⟨(encode L).toArray⟩] w fun e w' => ReadPost w (L, 0) e w' := by
  have hl := encode_length L
  have := read_any ⟨(encode L).toArray⟩ w (by show (encode L).toArray.size ≤ maxLen; rw [List.size_toArray]; unfold maxLen; omega)
  rw [show (ByteArray.mk (encode L).toArray).data.toList = encode L from rfl, read_encode L h] at this
  exact this

theorem wide_text (L : List UInt8) (h : L.length ≤ 4000) (m : Int) (w : World) (hm : w.cell? ⟨0, 0, none⟩ = some (.int .i64 m)) :
    Calls Tryd.prog 8 #[.string ⟨(encode L).toArray⟩] w fun e w' => e = .returned (.bool true) ∧ Below w.heap.size w w' := by
  have hl := encode_length L
  refine wide_any ⟨(encode L).toArray⟩ m w hm (by show (encode L).toArray.size ≤ 100000; rw [List.size_toArray]; omega) ?_
  intro x hx
  have h1 := (lines_of L _ (Nat.le_refl _)).1 x.data.toList ?_
  · rw [Array.length_toList] at h1; exact h1
  · have e := Lib.splitB_data ⟨#[13, 10]⟩ 0 (Lib.countB ⟨(encode L).toArray⟩ ⟨#[13, 10]⟩) ⟨(encode L).toArray⟩
    have hm2 : x.data.toList ∈ (Lib.splitB ⟨#[13, 10]⟩ 0 (Lib.countB ⟨(encode L).toArray⟩ ⟨#[13, 10]⟩) ⟨(encode L).toArray⟩).map (·.data.toList) := List.mem_map.2 ⟨x, hx, rfl⟩
    rw [e] at hm2
    exact hm2

theorem replace_text (L : List UInt8) (h : L.length ≤ 4000) (m : Int) (w : World) (hm : w.cell? ⟨0, 0, none⟩ = some (.int .i64 m)) :
    Calls Tryd.prog 9 #[.string ⟨(encode L).toArray⟩, .string ⟨#[13, 10]⟩, .string ⟨#[]⟩] w fun e w' =>
      ∃ r : ByteArray, r.size = (L.length + 2) / 3 * 4 ∧ e = .returned (.string r) ∧ Below w.heap.size w w' := by
  have hl := encode_length L
  refine (Tryd.strings_ReplaceAll ⟨(encode L).toArray⟩ ⟨#[13, 10]⟩ ⟨#[]⟩ m w (by show (encode L).toArray.size < _; rw [List.size_toArray]; omega) hm (by decide) (by show (encode L).toArray.size + _ * 0 ≤ _; rw [List.size_toArray]; omega)).mono ?_
  rintro e w' ⟨rfl, hb⟩
  refine ⟨_, ?_, rfl, hb⟩
  show (List.toArray _).size = _
  rw [List.size_toArray, ← (lines_of L _ (Nat.le_refl _)).2]
  rfl

set_option maxHeartbeats 2000000 in
theorem back_ok_many (s : ByteArray) (w : World) (hs : s.size ≤ maxLen) (out : List UInt8 × Nat) (ho : out = readS s.data.toList) (hout : out.2 = 0) (p : Option Addr) (n c : Nat) (hmx : n ≤ maxLen) (h4 : 4000 < n) :
    Calls Tryd.prog 3 #[.slice p n c, .string s] w fun e w' => e = .returned (.bool true) ∧ Below w.heap.size w w' := by
  have hl4 : out.1.length ≤ 4000 := by rw [ho]; exact readS_len _
  have A1 : Hid (∀ w, Calls Tryd.prog 4 #[.string s] w fun e w' => ReadPost w out e w') := fun w => by rw [ho]; exact read_any s w hs
  clear ho
  obtain ⟨C, en⟩ := out
  simp only at hout hl4
  subst hout
  go_enter Tryd.func3, Tryd.ntmps3
  go_wp2_with fail
  refine (A1.out _).mono ?_
  rintro e w1 ⟨hb1, p1, c1, rfl, hd1, hd2, hrow1⟩
  simp only at hd1 hrow1
  clear A1
  go_wp2_with fail
  refine (write_any p1 _ c1 C rfl _ hl4 hd1 hrow1).mono ?_
  rintro e w2 ⟨rfl, hb2⟩
  have hbw2 : Below w.heap.size w w2 := hb1.trans (hb2.mono hb1.size)
  have hrow2 := hrow1.below hb2
  clear hb1 hb2 hrow1
  go_wp2_with fail
  refine (read_back C hl4 _).mono ?_
  rintro e w3 ⟨hb3, p3, c3, rfl, he1, he2, hrow3⟩
  simp only at he1 hrow3
  have hbw3 : Below w.heap.size w w3 := hbw2.trans (hb3.mono hbw2.size)
  have hrow2' := hrow2.below hb3
  clear hb3 hbw2 hrow2
  go_wp2_with fail
  refine (equalBytes p3 p1 _ _ c3 c1 _ _ _ (Nat.le_trans he1 he2) (Nat.le_trans hd1 hd2) (brow_row hrow3) (brow_row hrow2')).mono ?_
  rintro e w4 ⟨rfl, q, rfl⟩
  rw [show decide (nums C = nums C) = true from by simp]
  have hbw := below_drewN hbw3 q
  clear hrow2' hrow3 hbw3
  generalize w3.drewN q = w4 at hbw ⊢
  go_wp2_with fail
  refine (write_many p n c _ h4 hmx).mono ?_
  rintro e w5 ⟨rfl, hw5⟩
  have hw5' := hw5.symm
  subst hw5'
  go_wp2_with fail
  refine (lettered_any _).mono ?_
  rintro e w6 ⟨rfl, hb6⟩
  go_wp2_with fail
  refine (lettered_any _).mono ?_
  rintro e w7 ⟨rfl, hb7⟩
  have hb := (hbw.trans (hb6.mono hbw.size)).trans (hb7.mono (Nat.le_trans hbw.size hb6.size))
  go_wp2
  go_ret
  exact ⟨rfl, hb⟩

set_option maxHeartbeats 2000000 in
theorem back_ok_few (s : ByteArray) (w : World) (hs : s.size ≤ maxLen) (out : List UInt8 × Nat) (ho : out = readS s.data.toList) (hout : out.2 = 0) (p : Option Addr) (c : Nat) (L : List UInt8) (h4 : L.length ≤ 4000) (hcap : L.length ≤ c) (hcm : c ≤ maxLen) (hr : BRow w p L) (m : Int) (hm : w.cell? ⟨0, 0, none⟩ = some (.int .i64 m)) (h0 : 0 < w.heap.size) :
    Calls Tryd.prog 3 #[.slice p L.length c, .string s] w fun e w' => e = .returned (.bool true) ∧ Below w.heap.size w w' := by
  have hl4 : out.1.length ≤ 4000 := by rw [ho]; exact readS_len _
  have A1 : Hid (∀ w, Calls Tryd.prog 4 #[.string s] w fun e w' => ReadPost w out e w') := fun w => by rw [ho]; exact read_any s w hs
  clear ho
  obtain ⟨C, en⟩ := out
  simp only at hout hl4
  subst hout
  go_enter Tryd.func3, Tryd.ntmps3
  go_wp2_with fail
  refine (A1.out _).mono ?_
  rintro e w1 ⟨hb1, p1, c1, rfl, hd1, hd2, hrow1⟩
  simp only at hd1 hrow1
  clear A1
  go_wp2_with fail
  refine (write_any p1 _ c1 C rfl _ hl4 hd1 hrow1).mono ?_
  rintro e w2 ⟨rfl, hb2⟩
  have hbw2 : Below w.heap.size w w2 := hb1.trans (hb2.mono hb1.size)
  have hrow2 := hrow1.below hb2
  clear hb1 hb2 hrow1
  go_wp2_with fail
  refine (read_back C hl4 _).mono ?_
  rintro e w3 ⟨hb3, p3, c3, rfl, he1, he2, hrow3⟩
  simp only at he1 hrow3
  have hbw3 : Below w.heap.size w w3 := hbw2.trans (hb3.mono hbw2.size)
  have hrow2' := hrow2.below hb3
  clear hb3 hbw2 hrow2
  go_wp2_with fail
  refine (equalBytes p3 p1 _ _ c3 c1 _ _ _ (Nat.le_trans he1 he2) (Nat.le_trans hd1 hd2) (brow_row hrow3) (brow_row hrow2')).mono ?_
  rintro e w4 ⟨rfl, q, rfl⟩
  rw [show decide (nums C = nums C) = true from by simp]
  have hbw := below_drewN hbw3 q
  clear hrow2' hrow3 hbw3
  generalize w3.drewN q = w4 at hbw ⊢
  have hrL := hr.below hbw
  go_wp2_with fail
  refine (write_any p _ c L rfl _ h4 hcap hrL).mono ?_
  rintro e w5 ⟨rfl, hb5⟩
  have hbw5 : Below w.heap.size w w5 := hbw.trans (hb5.mono hbw.size)
  clear hb5 hbw hrL
  go_wp2_with fail
  refine (lettered_any _).mono ?_
  rintro e w6 ⟨rfl, hb6⟩
  have hbw6 : Below w.heap.size w w6 := hbw5.trans (hb6.mono hbw5.size)
  clear hb6 hbw5
  go_wp2_with fail
  refine (read_back L h4 _).mono ?_
  rintro e w7 ⟨hb7, p7, c7, rfl, hf1, hf2, hrow7⟩
  simp only at hf1 hrow7
  have hbw7 : Below w.heap.size w w7 := hbw6.trans (hb7.mono hbw6.size)
  have hrL7 := hr.below hbw7
  clear hb7 hbw6
  go_wp2_with fail
  refine (equalBytes p7 p _ _ c7 c _ _ _ (Nat.le_trans hf1 hf2) (Nat.le_trans hcap hcm) (brow_row hrow7) (brow_row hrL7)).mono ?_
  rintro e w8 ⟨rfl, q2, rfl⟩
  rw [show decide (nums L = nums L) = true from by simp]
  have hbw8 := below_drewN hbw7 q2
  clear hrow7 hrL7 hbw7
  generalize w7.drewN q2 = w8 at hbw8 ⊢
  have hm8 : w8.cell? ⟨0, 0, none⟩ = some (.int .i64 m) := (hbw8.cell (p := ⟨0, 0, none⟩) h0).trans hm
  go_wp2_with fail
  refine (wide_text L h4 m _ hm8).mono ?_
  rintro e w9 ⟨rfl, hb9⟩
  have hbw9 : Below w.heap.size w w9 := hbw8.trans (hb9.mono hbw8.size)
  have hm9 : w9.cell? ⟨0, 0, none⟩ = some (.int .i64 m) := (hbw9.cell (p := ⟨0, 0, none⟩) h0).trans hm
  clear hb9 hbw8 hm8
  go_wp2_with fail
  refine (replace_text L h4 m _ hm9).mono ?_
  rintro e w10 ⟨r, hrs, rfl, hb10⟩
  have hb : Below w.heap.size w w10 := hbw9.trans (hb10.mono hbw9.size)
  have hrs' : (((r.size : Nat) : Int) == ((L.length : Int) + 2) / 3 * 4) = true := by rw [beq_iff_eq, hrs]; omega
  clear hb10 hbw9 hm9 hrs hr hm
  go_wp2
  go_ret
  exact ⟨rfl, hb⟩

set_option maxHeartbeats 2000000 in
theorem back_no_many (s : ByteArray) (w : World) (hs : s.size ≤ maxLen) (out : List UInt8 × Nat) (ho : out = readS s.data.toList) (hout : out.2 ≠ 0) (p : Option Addr) (n c : Nat) (hmx : n ≤ maxLen) (h4 : 4000 < n) :
    Calls Tryd.prog 3 #[.slice p n c, .string s] w fun e w' => e = .returned (.bool true) ∧ Below w.heap.size w w' := by
  have hl4 : out.1.length ≤ 4000 := by rw [ho]; exact readS_len _
  have A1 : Hid (∀ w, Calls Tryd.prog 4 #[.string s] w fun e w' => ReadPost w out e w') := fun w => by rw [ho]; exact read_any s w hs
  clear ho
  obtain ⟨C, en⟩ := out
  simp only at hout hl4
  have hne : ((en : Int) == 0) = false := by rw [beq_eq_false_iff_ne]; omega
  go_enter Tryd.func3, Tryd.ntmps3
  go_wp2_with fail
  refine (A1.out _).mono ?_
  rintro e w1 ⟨hb1, p1, c1, rfl, hd1, hd2, hrow1⟩
  simp only at hd1 hrow1
  clear A1
  have hbw := hb1
  clear hb1 hrow1
  generalize w1 = w4 at hbw ⊢
  go_wp2_with fail
  refine (write_many p n c _ h4 hmx).mono ?_
  rintro e w5 ⟨rfl, hw5⟩
  have hw5' := hw5.symm
  subst hw5'
  go_wp2_with fail
  refine (lettered_any _).mono ?_
  rintro e w6 ⟨rfl, hb6⟩
  go_wp2_with fail
  refine (lettered_any _).mono ?_
  rintro e w7 ⟨rfl, hb7⟩
  have hb := (hbw.trans (hb6.mono hbw.size)).trans (hb7.mono (Nat.le_trans hbw.size hb6.size))
  go_wp2
  go_ret
  exact ⟨rfl, hb⟩

set_option maxHeartbeats 2000000 in
theorem back_no_few (s : ByteArray) (w : World) (hs : s.size ≤ maxLen) (out : List UInt8 × Nat) (ho : out = readS s.data.toList) (hout : out.2 ≠ 0) (p : Option Addr) (c : Nat) (L : List UInt8) (h4 : L.length ≤ 4000) (hcap : L.length ≤ c) (hcm : c ≤ maxLen) (hr : BRow w p L) (m : Int) (hm : w.cell? ⟨0, 0, none⟩ = some (.int .i64 m)) (h0 : 0 < w.heap.size) :
    Calls Tryd.prog 3 #[.slice p L.length c, .string s] w fun e w' => e = .returned (.bool true) ∧ Below w.heap.size w w' := by
  have hl4 : out.1.length ≤ 4000 := by rw [ho]; exact readS_len _
  have A1 : Hid (∀ w, Calls Tryd.prog 4 #[.string s] w fun e w' => ReadPost w out e w') := fun w => by rw [ho]; exact read_any s w hs
  clear ho
  obtain ⟨C, en⟩ := out
  simp only at hout hl4
  have hne : ((en : Int) == 0) = false := by rw [beq_eq_false_iff_ne]; omega
  go_enter Tryd.func3, Tryd.ntmps3
  go_wp2_with fail
  refine (A1.out _).mono ?_
  rintro e w1 ⟨hb1, p1, c1, rfl, hd1, hd2, hrow1⟩
  simp only at hd1 hrow1
  clear A1
  have hbw := hb1
  clear hb1 hrow1
  generalize w1 = w4 at hbw ⊢
  have hrL := hr.below hbw
  go_wp2_with fail
  refine (write_any p _ c L rfl _ h4 hcap hrL).mono ?_
  rintro e w5 ⟨rfl, hb5⟩
  have hbw5 : Below w.heap.size w w5 := hbw.trans (hb5.mono hbw.size)
  clear hb5 hbw hrL
  go_wp2_with fail
  refine (lettered_any _).mono ?_
  rintro e w6 ⟨rfl, hb6⟩
  have hbw6 : Below w.heap.size w w6 := hbw5.trans (hb6.mono hbw5.size)
  clear hb6 hbw5
  go_wp2_with fail
  refine (read_back L h4 _).mono ?_
  rintro e w7 ⟨hb7, p7, c7, rfl, hf1, hf2, hrow7⟩
  simp only at hf1 hrow7
  have hbw7 : Below w.heap.size w w7 := hbw6.trans (hb7.mono hbw6.size)
  have hrL7 := hr.below hbw7
  clear hb7 hbw6
  go_wp2_with fail
  refine (equalBytes p7 p _ _ c7 c _ _ _ (Nat.le_trans hf1 hf2) (Nat.le_trans hcap hcm) (brow_row hrow7) (brow_row hrL7)).mono ?_
  rintro e w8 ⟨rfl, q2, rfl⟩
  rw [show decide (nums L = nums L) = true from by simp]
  have hbw8 := below_drewN hbw7 q2
  clear hrow7 hrL7 hbw7
  generalize w7.drewN q2 = w8 at hbw8 ⊢
  have hm8 : w8.cell? ⟨0, 0, none⟩ = some (.int .i64 m) := (hbw8.cell (p := ⟨0, 0, none⟩) h0).trans hm
  go_wp2_with fail
  refine (wide_text L h4 m _ hm8).mono ?_
  rintro e w9 ⟨rfl, hb9⟩
  have hbw9 : Below w.heap.size w w9 := hbw8.trans (hb9.mono hbw8.size)
  have hm9 : w9.cell? ⟨0, 0, none⟩ = some (.int .i64 m) := (hbw9.cell (p := ⟨0, 0, none⟩) h0).trans hm
  clear hb9 hbw8 hm8
  go_wp2_with fail
  refine (replace_text L h4 m _ hm9).mono ?_
  rintro e w10 ⟨r, hrs, rfl, hb10⟩
  have hb : Below w.heap.size w w10 := hbw9.trans (hb10.mono hbw9.size)
  have hrs' : (((r.size : Nat) : Int) == ((L.length : Int) + 2) / 3 * 4) = true := by rw [beq_iff_eq, hrs]; omega
  clear hb10 hbw9 hm9 hrs hr hm
  go_wp2
  go_ret
  exact ⟨rfl, hb⟩

/-- BaseBack. -/
theorem back_any (p : Option Addr) (n c : Nat) (zs : List Int) (s : ByteArray) (w : World) (h : IsRow .u8 w p n c zs) (hs : s.size ≤ maxLen) (m : Int) (hm : w.cell? ⟨0, 0, none⟩ = some (.int .i64 m)) :
    Calls Tryd.prog 3 #[.slice p n c, .string s] w fun e w' => e = .returned (.bool true) ∧ Below w.heap.size w w' := by
  obtain ⟨L, rfl, hcap, hcm, _, hr⟩ := isRow_bytes h
  have h0 : 0 < w.heap.size := World.block_lt_of_cell? w _ hm
  by_cases ho : (readS s.data.toList).2 = 0
  · by_cases h4 : 4000 < L.length
    · exact back_ok_many s w hs _ rfl ho p _ c (Nat.le_trans hcap hcm) h4
    · exact back_ok_few s w hs _ rfl ho p c L (by omega) hcap hcm hr m hm h0
  · by_cases h4 : 4000 < L.length
    · exact back_no_many s w hs _ rfl ho p _ c (Nat.le_trans hcap hcm) h4
    · exact back_no_few s w hs _ rfl ho p c L (by omega) hcap hcm hr m hm h0
end Go.Proofs.YtdeggdmmipkfeaaDoor

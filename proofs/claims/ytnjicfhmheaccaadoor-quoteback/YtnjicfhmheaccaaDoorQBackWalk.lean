/- The walk of the law QuoteBack: it answers true, and nothing that was there is changed. Condition: internal/bytealg.MaxLen holds some number. -/
import Derived.Test.YtnjicfhmheaccaaDoorQuoted
import Derived.Test.YtnjicfhmheaccaaDoorPlainT
import Derived.Test.YtnjicfhmheaccaaDoorWide
import Derived.Test.YtnjicfhmheaccaaDoorEq
import Derived.Laws.RangeString
namespace Go.Proofs.YtnjicfhmheaccaaDoor
open Go.RowKit

theorem dread_back (L : List UInt8) (h : L.length ≤ 4000) (w : World) :
    Calls Tryd.prog 14 #[.string ⟨(encQ L).toArray⟩] w fun e w' => ReadPost w (L, 0) e w' := by
  have hl := enc_length L
  have := dread_any ⟨(encQ L).toArray⟩ w (by show (encQ L).toArray.size ≤ maxLen; rw [List.size_toArray]; unfold maxLen; omega)
  rw [show (ByteArray.mk (encQ L).toArray).data.toList = encQ L from rfl, readQ_enc L h] at this
  exact this

theorem qwide_text (L : List UInt8) (h : L.length ≤ 4000) (m : Int) (w : World) (hm : w.cell? ⟨0, 0, none⟩ = some (.int .i64 m)) :
    Calls Tryd.prog 11 #[.string ⟨(encQ L).toArray⟩] w fun e w' => e = .returned (.bool true) ∧ Below w.heap.size w w' := by
  have hl := enc_length L
  refine wide_any ⟨(encQ L).toArray⟩ m w hm (by show (encQ L).toArray.size ≤ 100000; rw [List.size_toArray]; omega) ?_
  intro x hx
  have h1 := (enc_wide L).1 x.data.toList ?_
  · rw [Array.length_toList] at h1; exact h1
  · have e := Lib.splitB_data ⟨#[13, 10]⟩ 0 (Lib.countB ⟨(encQ L).toArray⟩ ⟨#[13, 10]⟩) ⟨(encQ L).toArray⟩
    have hm2 : x.data.toList ∈ (Lib.splitB ⟨#[13, 10]⟩ 0 (Lib.countB ⟨(encQ L).toArray⟩ ⟨#[13, 10]⟩) ⟨(encQ L).toArray⟩).map (·.data.toList) := List.mem_map.2 ⟨x, hx, rfl⟩
    rw [e] at hm2
    exact hm2

theorem qreplace_text (L : List UInt8) (h : L.length ≤ 4000) (m : Int) (w : World) (hm : w.cell? ⟨0, 0, none⟩ = some (.int .i64 m)) :
    Calls Tryd.prog 12 #[.string ⟨(encQ L).toArray⟩, .string ⟨#[13, 10]⟩, .string ⟨#[]⟩] w fun e w' =>
      ∃ r : ByteArray, (∀ c ∈ r.data.toList, 33 ≤ c.toNat ∧ c.toNat ≤ 126) ∧ e = .returned (.string r) ∧ Below w.heap.size w w' := by
  have hl := enc_length L
  refine (Tryd.strings_ReplaceAll ⟨(encQ L).toArray⟩ ⟨#[13, 10]⟩ ⟨#[]⟩ m w (by show (encQ L).toArray.size < _; rw [List.size_toArray]; omega) hm (by decide) (by show (encQ L).toArray.size + _ * 0 ≤ _; rw [List.size_toArray]; omega)).mono ?_
  rintro e w' ⟨rfl, hb⟩
  exact ⟨_, (enc_wide L).2, rfl, hb⟩

def oddP (x : Nat) : Bool := decide (x ≤ 32) || decide (126 < x)

theorem odd_any (x : Nat) (hx : x ≤ 1114111) (w : World) :
    Calls Tryd.prog 19 #[.int .i32 (x : Int)] w fun e w' => e = .returned (.bool (oddP x)) ∧ ∃ q, w' = w.drewN q := by
  by_cases h1 : x ≤ 32
  · have e1 : (x : Int) ≤ 32 := by omega
    have HO : Hid (oddP x = true) := by unfold Hid oddP; simp [h1]
    go_enter Tryd.func19, Tryd.ntmps19
    go_wp2
    go_ret
    exact ⟨by rw [HO.out]; rfl, 0, rfl⟩
  · have e1 : decide ((x : Int) ≤ 32) = false := by simp; omega
    by_cases h2 : 126 < x
    · have e2 : (126 : Int) < (x : Int) := by omega
      have HO : Hid (oddP x = true) := by unfold Hid oddP; simp [h2]
      go_enter Tryd.func19, Tryd.ntmps19
      go_wp2
      go_ret
      exact ⟨by rw [HO.out]; rfl, 0, rfl⟩
    · have e2 : decide ((126 : Int) < (x : Int)) = false := by simp; omega
      have HO : Hid (oddP x = false) := by unfold Hid oddP; simp; omega
      go_enter Tryd.func19, Tryd.ntmps19
      go_wp2
      go_ret
      exact ⟨by rw [HO.out]; rfl, 0, rfl⟩

theorem idx_none (s : ByteArray) (h : ∀ c ∈ s.data.toList, 33 ≤ c.toNat ∧ c.toNat ≤ 126) : ∀ f pos, Lib.idxFuncFrom oddP true s f pos = -1 := by
  intro f
  induction f with
  | zero => intro pos; rfl
  | succ f ih =>
    intro pos
    rw [Lib.idxFuncFrom]
    split
    · rename_i hp
      have hc : 33 ≤ (s[pos]'hp).toNat ∧ (s[pos]'hp).toNat ≤ 126 := h _ (by
        have : s[pos]'hp = s.data.toList[pos]'(by rw [← Lib.size_eq]; exact hp) := rfl
        rw [this]
        exact List.getElem_mem _)
      rw [decode_ascii s pos hp (by omega)]
      rw [if_neg (by simp [oddP]; omega)]
      exact ih _
    · rfl

theorem no_odd (s : ByteArray) (h : ∀ c ∈ s.data.toList, 33 ≤ c.toNat ∧ c.toNat ≤ 126) (w : World) :
    Calls Tryd.prog 18 #[.string s, .func (Fn.func 19) #[] #[]] w fun e w' => e = .returned (.bool false) ∧ Below w.heap.size w w' := by
  refine (Tryd.strings_ContainsFunc_runes 19 #[] (enters_of Tryd.func19 (by kernel_rfl) rfl) oddP s w (fun W x hx _ => odd_any x hx W)).mono ?_
  rintro e w' ⟨rfl, hb⟩
  refine ⟨?_, hb⟩
  rw [show Lib.idxFunc oddP true s = -1 from idx_none s h _ _]
  rfl

set_option maxHeartbeats 1000000 in
theorem qback_many (p : Option Addr) (n c : Nat) (w : World) (hm : n ≤ maxLen) (h : 4000 < n) :
    Calls Tryd.prog 5 #[.slice p n c] w fun e w' => e = .returned (.bool true) ∧ Below w.heap.size w w' := by
  go_enter Tryd.func5, Tryd.ntmps5
  go_wp2_with fail
  refine (qwrite_many p n c _ h hm).mono ?_
  rintro e w1 ⟨rfl, hw1⟩
  have hw1' := hw1.symm
  subst hw1'
  go_wp2_with fail
  refine (quoted_any _).mono ?_
  rintro e w2 ⟨rfl, hb2⟩
  go_wp2_with fail
  refine (quoted_any _).mono ?_
  rintro e w3 ⟨rfl, hb3⟩
  go_wp2
  go_ret
  exact ⟨rfl, hb2.trans (hb3.mono hb2.size)⟩

set_option maxHeartbeats 1000000 in
theorem qback_few (p : Option Addr) (c : Nat) (L : List UInt8) (w : World) (h4 : L.length ≤ 4000) (hcap : L.length ≤ c) (hcm : c ≤ maxLen) (hr : BRow w p L) (m : Int) (hm : w.cell? ⟨0, 0, none⟩ = some (.int .i64 m)) (h0 : 0 < w.heap.size) :
    Calls Tryd.prog 5 #[.slice p L.length c] w fun e w' => e = .returned (.bool true) ∧ Below w.heap.size w w' := by
  go_enter Tryd.func5, Tryd.ntmps5
  go_wp2_with fail
  refine (qwrite_any p _ c L rfl _ h4 hr).mono ?_
  rintro e w5 ⟨rfl, hbw5⟩
  go_wp2_with fail
  refine (quoted_any _).mono ?_
  rintro e w6 ⟨rfl, hb6⟩
  have hbw6 : Below w.heap.size w w6 := hbw5.trans (hb6.mono hbw5.size)
  clear hb6 hbw5
  go_wp2_with fail
  refine (dread_back L h4 _).mono ?_
  rintro e w7 ⟨hb7, p7, c7, rfl, hf1, hf2, hrow7⟩
  simp only at hf1 hrow7
  have hbw7 : Below w.heap.size w w7 := hbw6.trans (hb7.mono hbw6.size)
  have hrL7 := hr.below hbw7
  clear hb7 hbw6
  go_wp2_with fail
  refine (equalBytes p7 p _ _ c7 c _ _ _ (Nat.le_trans hf1 hf2) (Nat.le_trans hcap hcm) (brow_row hrow7) (brow_row hrL7)).mono ?_
  rintro e w8 ⟨rfl, q2, rfl⟩
  rw [show decide (nums L = nums L) = true from by simp]
  have hbw8 := bel_drew hbw7 q2
  clear hrow7 hrL7 hbw7
  generalize w7.drewN q2 = w8 at hbw8 ⊢
  have hm8 : w8.cell? ⟨0, 0, none⟩ = some (.int .i64 m) := (hbw8.cell (p := ⟨0, 0, none⟩) h0).trans hm
  go_wp2_with fail
  refine (qwide_text L h4 m _ hm8).mono ?_
  rintro e w9 ⟨rfl, hb9⟩
  have hbw9 : Below w.heap.size w w9 := hbw8.trans (hb9.mono hbw8.size)
  have hm9 : w9.cell? ⟨0, 0, none⟩ = some (.int .i64 m) := (hbw9.cell (p := ⟨0, 0, none⟩) h0).trans hm
  clear hb9 hbw8 hm8
  go_wp2_with fail
  refine (qreplace_text L h4 m _ hm9).mono ?_
  rintro e w10 ⟨r, hrs, rfl, hb10⟩
  have hbw10 : Below w.heap.size w w10 := hbw9.trans (hb10.mono hbw9.size)
  have HS : Hid (∀ c ∈ r.data.toList, 33 ≤ c.toNat ∧ c.toNat ≤ 126) := hrs
  clear hb10 hbw9 hm9 hrs hr hm
  go_wp2_with fail
  refine (no_odd r HS.out _).mono ?_
  rintro e w11 ⟨rfl, hb11⟩
  have hb : Below w.heap.size w w11 := hbw10.trans (hb11.mono hbw10.size)
  clear hb11 hbw10
  go_wp2
  go_ret
  exact ⟨rfl, hb⟩

/-- QuoteBack. -/
theorem qback_any (p : Option Addr) (n c : Nat) (zs : List Int) (w : World) (h : IsRow .u8 w p n c zs) (m : Int) (hm : w.cell? ⟨0, 0, none⟩ = some (.int .i64 m)) :
    Calls Tryd.prog 5 #[.slice p n c] w fun e w' => e = .returned (.bool true) ∧ Below w.heap.size w w' := by
  obtain ⟨L, rfl, hcap, hcm, _, hr⟩ := isRow_bytes h
  have h0 := World.block_lt_of_cell? w _ hm
  by_cases h4 : 4000 < L.length
  · exact qback_many p _ c w (Nat.le_trans hcap hcm) h4
  · exact qback_few p c L w (by omega) hcap hcm hr m hm h0
end Go.Proofs.YtnjicfhmheaccaaDoor

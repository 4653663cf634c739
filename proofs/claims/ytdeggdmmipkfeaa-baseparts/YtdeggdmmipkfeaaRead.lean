/- base.Read answers the bytes that the letters stand for, or the error that the plain function says; nothing that was there is changed. Condition: the text fits the machine. -/
import Derived.Test.YtdeggdmmipkfeaaCut
namespace Go.Proofs.Ytdeggdmmipkfeaa
open Go.RowKit

/-- What is owned lies there. -/
theorem owned_row {w : World} {B : Nat} {v : Value} {l : List UInt8} (h : w.ownsRow B 5 1 v l.length (bv l)) :
    ∃ p c, v = .slice p l.length c ∧ l.length ≤ c ∧ c ≤ maxLen ∧ (p = none → l.length = 0 ∧ c = 0) ∧ BRow w p l := by
  rcases h.2 with ⟨rfl, h0⟩ | ⟨g, cap, cur, rfl, hg, hh, hnc, hcp, hcs, htake⟩
  · refine ⟨none, 0, by rw [h0], by omega, by decide, fun _ => ⟨h0, rfl⟩, fun hne => absurd (List.length_eq_zero_iff.1 h0) hne⟩
  · refine ⟨some ⟨g, 0, none⟩, cap, rfl, hnc, hcp, fun e => (by cases e), fun _ => ⟨g, 0, rfl, fun i hi => ?_⟩⟩
    rw [Nat.zero_add, h.cellAt i (by omega)]
    simp [bv, hi, List.getD_eq_getElem?_getD]

theorem BRow.below {w w' : World} {p : Option Addr} {l : List UInt8} (h : BRow w p l) (hb : Below w.heap.size w w') : BRow w' p l := by
  intro hne
  obtain ⟨b, o, rfl, hc⟩ := h hne
  refine ⟨b, o, rfl, fun i hi => ?_⟩
  have := hc i hi
  rw [hb.cell (p := ⟨b, o + i, none⟩) (World.block_lt_of_cell? w _ this)]
  exact this

def ReadPost (w : World) (out : List UInt8 × Nat) (e : Ending) (w' : World) : Prop :=
  Below w.heap.size w w' ∧ ∃ p c, e = .returned (.tuple #[.slice p out.1.length c, .int .i64 (out.2 : Int)]) ∧ out.1.length ≤ c ∧ c ≤ maxLen ∧ BRow w' p out.1

theorem readPost_none {w w' : World} (hb : Below w.heap.size w w') (n : Nat) : ReadPost w ([], n) (.returned (.tuple #[.slice none 0 0, .int .i64 (n : Int)])) w' :=
  ⟨hb, none, 0, rfl, Nat.le_refl _, by decide, fun h => absurd rfl h⟩

theorem readS_bad {l : List UInt8} (h : l.length ≤ 8000) (h' : scan l ([], 0) = none) : readS l = ([], 1) := by
  unfold readS
  rw [if_neg (by omega)]
  have : digitsS l = none := by unfold digitsS; rw [h']; rfl
  rw [this]

theorem read_many (s : ByteArray) (w : World) (hs : s.size ≤ maxLen) (h : 8000 < s.size) :
    Calls Try.prog 8 #[.string s] w fun e w' => e = .returned (.tuple #[.slice none 0 0, .int .i64 2]) ∧ w' = w := by
  unfold maxLen at hs
  have h' : (8000 : Int) < (s.size : Int) := by omega
  go_enter Try.func8, Try.ntmps8
  go_wp2
  go_ret2
  exact ⟨rfl, rfl⟩

set_option maxHeartbeats 1000000 in
theorem read_few (s : ByteArray) (w : World) (h : s.size ≤ 8000) :
    Calls Try.prog 8 #[.string s] w fun e w' => ReadPost w (readS s.data.toList) e w' := by
  have hlen : ¬ 8000 < s.data.toList.length := by rw [Array.length_toList]; show ¬ 8000 < s.size; omega
  have hlen' : s.data.toList.length ≤ 8000 := by omega
  go_enter Try.func8, Try.ntmps8
  go_wp2_with fail
  refine (digits_any s w h).mono ?_
  rintro e w1 ⟨hb1, ⟨hd, rfl⟩ | ⟨x, f, v, hd, rfl, hown⟩⟩
  · have hr : Hid (readS s.data.toList = ([], 1)) := by unfold Hid readS; rw [if_neg hlen, hd]
    clear hd hlen
    go_wp2
    go_ret2
    rw [hr.out]
    exact readPost_none hb1 1
  · obtain ⟨p, c, rfl, hc1, hc2, hp, hrow⟩ := owned_row hown
    have hsc : scan s.data.toList ([], 0) = some (x, f) ∧ f ≤ 2 ∧ x.length % 4 = 0 := by
      unfold digitsS at hd
      cases hq : scan s.data.toList ([], 0) with
      | none => rw [hq] at hd; cases hd
      | some st =>
        rw [hq] at hd
        by_cases hh : 2 < st.2 ∨ st.1.length % 4 ≠ 0
        · simp only [Option.bind_some, if_pos hh] at hd; cases hd
        · simp only [Option.bind_some, if_neg hh] at hd
          cases hd
          exact ⟨rfl, by simp only at hh; omega, by simp only at hh; omega⟩
    obtain ⟨hs1, hf2, hx4⟩ := hsc
    obtain ⟨hb64, hfx, hxl⟩ := scan_bounds _ _ _ _ hs1 (by simp) (by simp)
    have hx8 : x.length ≤ 8000 := by simp at hxl; omega
    have hjl : Hid ((joinS x).length = 3 * (x.length / 4)) := joinTo_length x _
    have hj1 : (joinS x).length ≤ 6000 := by have := hjl.out; omega
    have hj2 : f ≤ (joinS x).length := by have := hjl.out; omega
    clear hjl
    clear hs1 hxl hown
    have H1 : Hid (readS s.data.toList = match cutS (joinS x) f with | none => ([], 1) | some b => if 4000 < b.length then ([], 2) else (b, 0)) := by
      unfold Hid readS; rw [if_neg hlen, hd]; rfl
    clear hd hlen hlen'
    go_wp2_with fail
    refine (join_any p _ c x rfl _ hx8 hb64 hx4 hrow).mono ?_
    rintro e w2 ⟨v2, rfl, hown2, hb2⟩
    obtain ⟨p2, c2, rfl, hd1, hd2, hp2, hrow2⟩ := owned_row hown2
    clear hown2
    go_wp2_with fail
    refine (cut_any p2 _ c2 (joinS x) f rfl _ (by omega) hd1 hp2 hf2 hj2 hrow2).mono ?_
    rintro e w3 ⟨rfl, ⟨hcut, rfl⟩ | ⟨b, hcut, hbl, hrow3, rfl⟩⟩
    · have hr : Hid (readS s.data.toList = ([], 1)) := by unfold Hid; rw [H1.out, hcut]
      clear hcut
      go_wp2
      go_ret2
      rw [hr.out]
      exact readPost_none (hb1.trans (hb2.mono hb1.size)) 1
    · by_cases h4 : 4000 < b.length
      · have hr : Hid (readS s.data.toList = ([], 2)) := by unfold Hid; rw [H1.out, hcut]; simp only [if_pos h4]
        clear hcut
        go_wp2
        go_ret2
        rw [hr.out]
        exact readPost_none (hb1.trans (hb2.mono hb1.size)) 2
      · have hr : Hid (readS s.data.toList = (b, 0)) := by unfold Hid; rw [H1.out, hcut]; simp only [if_neg h4]
        clear hcut
        go_wp2
        go_ret2
        rw [hr.out]
        exact ⟨hb1.trans (hb2.mono hb1.size), p2, c2, rfl, by simp only; omega, hd2, hrow3⟩

/-- base.Read. -/
theorem read_any (s : ByteArray) (w : World) (h : s.size ≤ maxLen) :
    Calls Try.prog 8 #[.string s] w fun e w' => ReadPost w (readS s.data.toList) e w' := by
  by_cases h8 : 8000 < s.size
  · refine (read_many s w h h8).mono ?_
    rintro e w' ⟨rfl, rfl⟩
    have : readS s.data.toList = ([], 2) := by
      unfold readS; rw [if_pos (by rw [Array.length_toList]; exact h8)]
    rw [this]
    exact readPost_none (Below.refl _ _) 2
  · exact read_few s w (by omega)
end Go.Proofs.Ytdeggdmmipkfeaa

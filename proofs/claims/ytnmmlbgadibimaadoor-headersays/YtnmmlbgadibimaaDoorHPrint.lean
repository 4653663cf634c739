/- header.Print: Check's error and no text, or each field on a line, and an empty one. Nothing that was there is changed. Conditions: the fields lie there. -/
import Derived.Test.YtnmmlbgadibimaaDoorHCheck
import Derived.Test.YtnmmlbgadibimaaDoorFText
import Derived.Lib.AppendStr
namespace Go.Proofs.YtnmmlbgadibimaaDoor
open Go.RowKit

theorem conv_bytes (w : World) (p : Option Addr) (n c : Nat) (L : List UInt8) (en : n = L.length) (hr : BRow w p L) (hp : p = none → n = 0 ∧ c = 0) : (convert 22 9 (.slice p n c)).run Tryd.prog w = .ok (.string ⟨L.toArray⟩) w := by
  cases p with
  | none =>
    obtain ⟨h0, rfl⟩ := hp rfl
    subst h0
    obtain rfl : L = [] := List.length_eq_zero_iff.1 en.symm
    exact convert_nil w
  | some a =>
    subst en
    refine run_convert_bytes_back (P := Tryd.prog) w 22 9 5 a c L Tryd.underlying22 Tryd.underlying5 Tryd.underlying9 (fun j hj => ?_)
    obtain ⟨b, o, e, hc⟩ := hr (fun e => by rw [e] at hj; exact absurd hj (by simp))
    obtain rfl := Option.some.inj e
    rw [Addr.add_lit, hc j hj]
    simp [List.getD_eq_getElem?_getD, List.getElem?_eq_getElem hj]

def printV (l : List FV) : List UInt8 := if checkV l = 0 then textV l else []
theorem checkV_cases (l : List FV) : checkV l = 0 ∧ l.length ≤ 20 ∧ okAll l = true ∨ checkV l = 1 ∨ checkV l = 2 := by
  unfold checkV badN
  split
  · exact .inr (.inr rfl)
  · split
    · rename_i h1 h2; exact .inl ⟨rfl, by omega, h2⟩
    · exact .inr (.inl rfl)

theorem strCells_bv (s : ByteArray) : Lib.strCells s = bv s.data.toList := by simp [bv, Lib.strCells]

set_option maxHeartbeats 1000000 in
theorem hprint_bad (e0 : Nat) (he0 : e0 = 1 ∨ e0 = 2) (p : Option Addr) (n c : Nat) (w : World)
    (C : Calls Tryd.prog 38 #[.slice p n c] w fun e w' => e = .returned (.int .i64 (e0 : Nat)) ∧ Below w.heap.size w w') :
    Calls Tryd.prog 28 #[.slice p n c] w fun e w' => e = .returned (.tuple #[.string ⟨#[]⟩, .int .i64 (e0 : Nat)]) ∧ Below w.heap.size w w' := by
  have HC : Hid (Calls Tryd.prog 38 #[.slice p n c] w fun e w' => e = .returned (.int .i64 (e0 : Nat)) ∧ Below w.heap.size w w') := C
  clear C
  rcases he0 with rfl | rfl
  all_goals
    go_enter Tryd.func28, Tryd.ntmps28
    go_wp2_with fail
    refine HC.out.mono ?_
    rintro e w1 ⟨rfl, hb⟩
    clear HC
    go_wp2
    go_ret2
    exact ⟨rfl, hb⟩

set_option maxHeartbeats 2000000 in
theorem hprint_good (p : Option Addr) (n c : Nat) (l : List FV) (en : n = l.length) (w : World) (h20 : n ≤ 20) (ho : okAll l = true) (hr : FRow w p l)
    (C : Calls Tryd.prog 38 #[.slice p n c] w fun e w' => e = .returned (.int .i64 0) ∧ Below w.heap.size w w') :
    Calls Tryd.prog 28 #[.slice p n c] w fun e w' => e = .returned (.tuple #[.string ⟨(textV l).toArray⟩, .int .i64 0]) ∧ Below w.heap.size w w' := by
  obtain ⟨i0, hi, hz0, hz1, hz2⟩ := info_parts info_u8
  have HC : Hid (Calls Tryd.prog 38 #[.slice p n c] w fun e w' => e = .returned (.int .i64 0) ∧ Below w.heap.size w w') := C
  have HL : Hid (n = l.length) := en
  have HO : Hid (okAll l = true) := ho
  have HR : Hid (FRow w p l) := hr
  clear C en ho hr
  go_enter Tryd.func28, Tryd.ntmps28
  go_wp2_with fail
  refine HC.out.mono ?_
  rintro e w1 ⟨rfl, hb⟩
  clear HC
  go_wp2
  go_loopw [5, 15] (fun ov iv wr => ∃ (k : Nat) (O : List UInt8), k ≤ n ∧ iv = .int .i64 k ∧ wr.ownsRow w.heap.size 5 1 ov O.length (bv O) ∧ O.length ≤ 934 * k ∧ Below w.heap.size w wr ∧ Hid (O = linesV (l.take k))) (fun _ iv _ => n - (intOf iv).toNat)
  case atStart => exact ⟨0, [], Nat.zero_le _, rfl, World.ownsRow_nil _ _ _ _, Nat.zero_le _, hb, rfl⟩
  case round =>
    obtain ⟨k, O, hk, rfl, hown, hO, hbel, HK⟩ := hrel
    have hsz := hbel.size
    by_cases hlt : k < n
    · obtain ⟨b, o, rfl, hc⟩ := HR.out (fun e => by have := HL.out; rw [e] at this; simp at this; omega)
      rw [← HL.out] at hc
      have hbB : b < w.heap.size := World.block_lt_of_cell? w _ (hc 0 (by omega)).1
      have hc1 : wr.cell? ⟨b, o + k * 2, none⟩ = some (.string (l.getD k default).1) := (hbel.cell (p := ⟨b, o + k * 2, none⟩) hbB).trans (hc k hlt).1
      have hc2 : wr.cell? ⟨b, o + k * 2 + 1, none⟩ = some (.string (l.getD k default).2) := (hbel.cell (p := ⟨b, o + k * 2 + 1, none⟩) hbB).trans (hc k hlt).2
      have hm := ok_sizes _ (okAll_at l HO.out k (by rw [← HL.out]; exact hlt))
      have HN : Hid (linesV (l.take (k + 1)) = linesV (l.take k) ++ lineF (fl (l.getD k default))) := linesV_take l k (by rw [← HL.out]; exact hlt)
      clear hc hb
      generalize l.getD k default = f at *
      obtain ⟨A, B⟩ := f
      simp only at hc1 hc2 hm
      have hXs : (A ++ ⟨#[58, 32]⟩ ++ B ++ ⟨#[13, 10]⟩ : ByteArray).size = A.size + B.size + 4 := by
        rw [size_of (x := lineF (fl (A, B))) (by simp [lineF, fl]), lineF_length]
      go_wp2_with (at_builtin; refine Lib.wpList_append_own_string _ rfl (.tmp 19) (.tmp 26) 22 9 rfl w.heap.size 5 i0 Tryd.underlying22 Tryd.underlying9 hi hz0 hz1 hz2 _ _ _ rfl (hown.alloc _) (A ++ ⟨#[58, 32]⟩ ++ B ++ ⟨#[13, 10]⟩) rfl ?d1 ?d2 ?d3 ?_)
      case d1 => rw [hXs]; unfold maxLen; omega
      case d2 => rw [hXs]; omega
      case d3 => simp; omega
      intro v2 w2 hown2 hg2 _
      have RB2 : Below w.heap.size w w2 := push_below hown hbel hsz hg2
      have R : w2.ownsRow w.heap.size 5 1 v2 (O ++ lineF (fl (A, B))).length (bv (O ++ lineF (fl (A, B)))) := by
        have e1 : (A ++ ⟨#[58, 32]⟩ ++ B ++ ⟨#[13, 10]⟩ : ByteArray).data.toList = lineF (fl (A, B)) := by simp [lineF, fl]
        have e2 : (O ++ lineF (fl (A, B))).length = O.length + (A.size + B.size + 4) := by rw [List.length_append, lineF_length]
        rw [e2, bv_append, ← e1, ← strCells_bv]
        exact hown2
      clear hg2 hown hown2
      go_wp2
      go_roundw
      case rel =>
        refine ⟨k + 1, _, by omega, by go_num, R, ?_, RB2, ?_⟩
        · rw [List.length_append, lineF_length]; simp only; omega
        · unfold Hid; rw [HN.out, ← HK.out]
      case measure => simp [intOf]; omega
    · obtain rfl : k = n := by omega
      have HN : Hid (textV l = O ++ [13, 10]) := by unfold Hid; rw [textV_eq, HK.out, HL.out, List.take_length]
      obtain ⟨q, cq, rfl, _, _, hq, hbr⟩ := owned_row hown
      have hcv := conv_bytes wr q O.length cq O rfl hbr hq
      clear hbr hown hb HK
      go_wp2
      go_ret2
      exact ⟨congrArg Ending.returned (by rw [HN.out]; congr 3), hbel⟩

/-- header.Print. -/
theorem hprint_any (p : Option Addr) (n c : Nat) (l : List FV) (en : n = l.length) (w : World) (hm : n ≤ maxLen) (hl : FLen l) (hr : FRow w p l) :
    Calls Tryd.prog 28 #[.slice p n c] w fun e w' => e = .returned (.tuple #[.string ⟨(printV l).toArray⟩, .int .i64 (checkV l : Nat)]) ∧ Below w.heap.size w w' := by
  have C := hcheck_any p n c l en w hm hl hr
  rcases checkV_cases l with ⟨h, h20, ho⟩ | h
  · rw [h] at C
    unfold printV
    rw [h, if_pos rfl]
    exact hprint_good p n c l en w (by omega) ho hr C
  · have := hprint_bad (checkV l) h p n c w C
    unfold printV
    rw [if_neg (by omega)]
    exact this
end Go.Proofs.YtnmmlbgadibimaaDoor

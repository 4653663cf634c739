/- The law's small1, strings that lie in memory. Nothing that was there is changed. -/
import Derived.Test.YtnlnjjcfpbmpmaaDoorHBackWalk
import Derived.Test.YtnlnjjcfpbmpmaaDoorHParam
import Derived.Deep.Strs
namespace Go.Proofs.YtnlnjjcfpbmpmaaDoor
open Go.RowKit

/-- The texts l lie behind the address p. -/
def SRow (w : World) (p : Option Addr) (l : List ByteArray) : Prop :=
  l ≠ [] → ∃ b o, p = some ⟨b, o, none⟩ ∧ ∀ i, i < l.length → w.cell? ⟨b, o + i, none⟩ = some (.string (l.getD i default))
def SLen (l : List ByteArray) : Prop := ∀ s ∈ l, s.size ≤ maxLen
theorem SRow.below {w w' : World} {p : Option Addr} {l : List ByteArray} (h : SRow w p l) (hb : Below w.heap.size w w') : SRow w' p l := by
  intro hne
  obtain ⟨b, o, rfl, hc⟩ := h hne
  refine ⟨b, o, rfl, fun i hi => ?_⟩
  have := hc i hi
  rw [hb.cell (p := ⟨b, o + i, none⟩) (World.block_lt_of_cell? w _ this)]
  exact this
theorem sv_mem (l : List ByteArray) (k : Nat) (h : k < l.length) : l.getD k default ∈ l := by
  simp [List.getD_eq_getElem?_getD, List.getElem?_eq_getElem h]

/-- A list of texts that came in. -/
theorem strs_open {H : Type} {enc : TypeId × Value → H} {W : World} {base : Nat} {spare : Nat → Bool} {held : Bool} {fuel : Nat} {a0 : Option Addr} {len cap : Nat} {x : DataW H × List MemPlace}
    (h : DataW.trod enc Tryd.prog W base spare held fuel 60 [.slice a0 len cap] = some x) :
    ∃ l : List ByteArray, l.length = len ∧ len ≤ cap ∧ cap ≤ maxLen ∧ (a0 = none → len = 0 ∧ cap = 0) ∧ SRow W a0 l ∧ SLen l := by
  rcases Go.Deep.open_strs Tryd.underlying60 Tryd.underlying9 (by kernel_rfl) h with ⟨hcs, _⟩ | ⟨a, l, c, m, F, hcs, _, hl, hm, hmm, _, hF⟩
  · simp at hcs
    obtain ⟨rfl, rfl, rfl⟩ := hcs
    exact ⟨[], rfl, Nat.le_refl _, by decide, fun _ => ⟨rfl, rfl⟩, fun h => absurd rfl h, fun f hf => by cases hf⟩
  · simp at hcs
    obtain ⟨rfl, rfl, rfl⟩ := hcs
    have hlm : len ≤ m := by rw [hmm]; split <;> omega
    refine ⟨(List.range len).map F, by simp, hl, hm, (fun h => by cases h), fun hne => ?_, fun f hf => ?_⟩
    · have hpos : 0 < len := by
        rcases Nat.eq_zero_or_pos len with e | e
        · subst e; exact absurd rfl hne
        · exact e
      obtain ⟨b, o, spot⟩ := a
      have hspot : spot = none := by simpa [Addr.add] using World.cell?_spot (hF 0 (by omega)).1
      subst hspot
      refine ⟨b, o, rfl, fun i hi => ?_⟩
      have hi' : i < len := by simpa using hi
      have e1 : ((List.range len).map F).getD i default = F i := by simp [List.getD_eq_getElem?_getD, hi']
      have h1 := (hF i (by omega)).1
      rw [Addr.add_lit] at h1
      rw [e1]
      exact h1
    · obtain ⟨i, hi, rfl⟩ := List.mem_map.1 hf
      exact (hF i (Nat.lt_of_lt_of_le (by simpa using hi) hlm)).2

theorem bytes_of_free (s : ByteArray) (w : World) : ∃ (W1 : World) (cap : Nat), (convert 9 22 (.string s)).run Tryd.prog w = .ok (.slice (some ⟨w.heap.size, 0, none⟩) s.size cap) W1 ∧ Below w.heap.size w W1 ∧ w.heap.size < W1.heap.size ∧
    (∀ i, i < s.size → W1.cell? ⟨w.heap.size, i, none⟩ = some (.int .u8 ((s.data.toList.getD i 0).toNat : Int))) ∧ ∀ i, i < s.size → W1.frozen? ⟨w.heap.size, i, none⟩ = false := by
  refine ⟨_, _, run_bytes_of_string (P := Tryd.prog) w 9 22 5 s Tryd.underlying9 Tryd.underlying22 Tryd.underlying5, ((Below.refl _ _).drew).alloc (Nat.le_refl _) _, by show w.heap.size < (w.heap.push _).size; simp, fun i hi => ?_, fun i hi => ?_⟩
  · have hi' : i < s.data.size := hi
    refine (World.cell?_alloc_mark w.drew _ _ _ i).trans ?_
    unfold bytesRow
    rw [Array.getElem?_append_left (by simpa using hi')]
    simp [List.getD_eq_getElem?_getD, Array.getElem?_eq_getElem hi']
  · refine (World.frozen?_alloc_mark w.drew _ _ _ _ i).trans ?_
    have : ¬ (bytesRow s (grownCap w s.size 0 5)).size ≤ i := by
      unfold bytesRow
      rw [Array.size_append, Array.size_map]
      have : s.data.size = s.size := rfl
      omega
    simp [this]

/-- The first k of l small, the others as they are. -/
def lowTo (l : List UInt8) (k : Nat) : List UInt8 := small8 (l.take k) ++ l.drop k
theorem lowTo_length (l : List UInt8) (k : Nat) : (lowTo l k).length = l.length := by
  simp only [lowTo, small8, Lib.toLowerA, List.length_append, List.length_map, List.length_take, List.length_drop]; omega
theorem lowTo_at (l : List UInt8) (k i : Nat) (hi : i < l.length) : (lowTo l k).getD i 0 = if i < k then Lib.lowerB (l.getD i 0) else l.getD i 0 := by
  have hi2 : i < (lowTo l k).length := by rw [lowTo_length]; exact hi
  rw [List.getD_eq_getElem?_getD, List.getD_eq_getElem?_getD, List.getElem?_eq_getElem hi]
  unfold lowTo small8 Lib.toLowerA
  by_cases h : i < k
  · rw [if_pos h, List.getElem?_append_left (by simp; omega), List.getElem?_map, List.getElem?_take_of_lt h, List.getElem?_eq_getElem hi]
    rfl
  · rw [if_neg h, List.getElem?_append_right (by simp; omega), List.getElem?_drop]
    simp only [List.length_map, List.length_take]
    rw [show k + (i - min k l.length) = i from by omega, List.getElem?_eq_getElem hi]

theorem lower_num (c : UInt8) : (Lib.lowerB c).toNat = if 65 ≤ c.toNat ∧ c.toNat ≤ 90 then c.toNat + 32 else c.toNat := by
  have : ∀ n : Fin 256, (Lib.lowerB (UInt8.ofNat n.val)).toNat = if 65 ≤ n.val ∧ n.val ≤ 90 then n.val + 32 else n.val := by decide +kernel
  have h := this ⟨c.toNat, c.toNat_lt⟩
  rwa [show UInt8.ofNat c.toNat = c from UInt8.ofNat_toNat] at h

set_option maxHeartbeats 2000000 in
theorem small1_any (l : List UInt8) (w : World) (hs : l.length ≤ 1000000) :
    Calls Tryd.prog 50 #[.string (ba l)] w fun e w' => e = .returned (.string (ba (small8 l))) ∧ Below w.heap.size w w' := by
  obtain ⟨W1, cap, hcv, hb1, hlt1, hc1, hf1⟩ := bytes_of_free (ba l) w
  rw [ba_data, ba_size] at hc1
  rw [ba_size] at hf1 hcv
  obtain ⟨n, hn⟩ : ∃ n, n = l.length := ⟨_, rfl⟩
  rw [← hn] at hc1 hf1 hcv hs
  have HN : Hid (n = l.length) := hn
  have HC : Hid (∀ i, i < n → W1.cell? ⟨w.heap.size, i, none⟩ = some (.int .u8 ((l.getD i 0).toNat : Int))) := hc1
  have HF : Hid (∀ i, i < n → W1.frozen? ⟨w.heap.size, i, none⟩ = false) := hf1
  clear hc1 hf1 hn
  go_enter Tryd.func50, Tryd.ntmps50
  go_wp2
  go_loopw [10] (fun iv wr => ∃ k : Nat, k ≤ n ∧ iv = .int .i64 k ∧ Below w.heap.size w wr ∧ w.heap.size < wr.heap.size ∧ Hid (∀ i, i < n → wr.cell? ⟨w.heap.size, i, none⟩ = some (.int .u8 (((lowTo l k).getD i 0).toNat : Int))) ∧ Hid (∀ i, i < n → wr.frozen? ⟨w.heap.size, i, none⟩ = false)) (fun iv _ => n - (intOf iv).toNat)
  case atStart => exact ⟨0, Nat.zero_le _, rfl, hb1, hlt1, fun i hi => by rw [lowTo_at l 0 i (by rw [← HN.out]; exact hi), if_neg (by omega)]; exact HC.out i hi, HF⟩
  case round =>
    obtain ⟨k, hk, rfl, hbel, hlt2, HK, HFr⟩ := hrel
    clear hcv
    by_cases hlt : k < n
    · have hkl : k < l.length := by rw [← HN.out]; exact hlt
      have h1 := HK.out k hlt
      rw [lowTo_at l k k hkl, if_neg (by omega)] at h1
      have h2 := HFr.out k hlt
      have hlow := lower_num (l.getD k 0)
      have hd := (l.getD k 0).toNat_lt
      have key : ∀ i, i < n → i ≠ k → (lowTo l (k + 1)).getD i 0 = (lowTo l k).getD i 0 := fun i hi hne => by
        rw [lowTo_at l (k + 1) i (by rw [← HN.out]; exact hi), lowTo_at l k i (by rw [← HN.out]; exact hi)]
        by_cases h : i < k
        · rw [if_pos (by omega), if_pos h]
        · rw [if_neg (by omega), if_neg h]
      have HKey : Hid (∀ i, i < n → i ≠ k → (lowTo l (k + 1)).getD i 0 = (lowTo l k).getD i 0) := key
      have HAt : Hid ((lowTo l (k + 1)).getD k 0 = Lib.lowerB (l.getD k 0)) := by unfold Hid; rw [lowTo_at l (k + 1) k hkl, if_pos (by omega)]
      clear key
      generalize l.getD k 0 = d at *
      by_cases hu : 65 ≤ d.toNat ∧ d.toNat ≤ 90
      · rw [if_pos hu] at hlow
        have u1 : (65 : Int) ≤ (d.toNat : Int) := by omega
        have u2 : (d.toNat : Int) ≤ 90 := by omega
        have hL : ((Lib.lowerB d).toNat : Int) = (d.toNat : Int) + 32 := by omega
        have HLow : Hid (((Lib.lowerB d).toNat : Int) = (d.toNat : Int) + 32) := hL
        have hw1 : IntKind.u8.wrap ((d.toNat : Int) + 97) = (d.toNat : Int) + 97 := by rw [IntKind.wrap_u8]; omega
        have hw2 : IntKind.u8.wrap ((d.toNat : Int) + 97 - 65) = (d.toNat : Int) + 32 := by rw [IntKind.wrap_u8]; omega
        clear hlow hL
        go_wp2
        go_roundw
        case rel =>
          refine ⟨k + 1, by omega, by go_num, ?_, ?_, ?_, ?_⟩
          · exact hbel.setCell (Nat.le_refl _) _
          · simp; omega
          · intro i hi
            by_cases hik : i = k
            · subst hik
              rw [HAt.out, HLow.out]
              exact World.cell?_setCell_same' _ _ _ (by rw [h1]; rfl)
            · rw [World.cell?_setCell_other _ _ _ _ (by simp), HKey.out i hi hik]
              exact HK.out i hi
          · intro i hi
            rw [World.frozen?_setCell]
            exact HFr.out i hi
        case measure => simp [intOf]; omega
      · rw [if_neg hu] at hlow
        have hL : Lib.lowerB d = d := UInt8.toNat_inj.1 hlow
        have HLow : Hid (Lib.lowerB d = d) := hL
        clear hlow hL
        have HK2 : Hid (∀ i, i < n → wr.cell? ⟨w.heap.size, i, none⟩ = some (.int .u8 (((lowTo l (k + 1)).getD i 0).toNat : Int))) := fun i hi => by
          by_cases hik : i = k
          · subst hik; rw [HAt.out, HLow.out]; exact h1
          · rw [HKey.out i hi hik]; exact HK.out i hi
        by_cases u1 : 65 ≤ d.toNat
        · have u1' : (65 : Int) ≤ (d.toNat : Int) := by omega
          have u2' : decide ((d.toNat : Int) ≤ 90) = false := by simp; omega
          clear hu u1
          go_wp2
          go_roundw
          case rel => exact ⟨k + 1, by omega, by go_num, hbel, hlt2, HK2, HFr⟩
          case measure => simp [intOf]; omega
        · have u1' : decide ((65 : Int) ≤ (d.toNat : Int)) = false := by simp; omega
          clear hu u1
          go_wp2
          go_roundw
          case rel => exact ⟨k + 1, by omega, by go_num, hbel, hlt2, HK2, HFr⟩
          case measure => simp [intOf]; omega
    · obtain rfl : k = n := by omega
      have hcv2 := run_convert_bytes_back (P := Tryd.prog) wr 22 9 5 ⟨w.heap.size, 0, none⟩ cap (lowTo l k) Tryd.underlying22 Tryd.underlying5 Tryd.underlying9 (fun j hj => by
        rw [Addr.add_lit, Nat.zero_add, HK.out j (by rw [lowTo_length, ← HN.out] at hj; exact hj)]
        simp [List.getD_eq_getElem?_getD, List.getElem?_eq_getElem hj])
      rw [lowTo_length, ← HN.out] at hcv2
      have HR : Hid (lowTo l k = small8 l) := by unfold Hid lowTo; rw [HN.out, List.take_length, List.drop_length, List.append_nil]
      clear HK HFr HC HF
      generalize lowTo l k = X at *
      go_wp2
      go_ret
      exact ⟨by rw [← HR.out]; rfl, hbel⟩
end Go.Proofs.YtnlnjjcfpbmpmaaDoor


import Derived.Test.YtlndhdimamnnlaaGreatDoorXmimesays32
namespace Go.Proofs.YtlndhdimamnnlaaGreatDoor
open Go.RowKit
set_option maxHeartbeats 2000000 in
set_option maxRecDepth 100000 in
theorem pof_any (s : ByteArray) (w : World) (hs : s.size ≤ maxLen) (hT : ∀ w', Below w.heap.size w w' → Lib.Utf8Tabs 6 7 w') :
  Calls Tryz.prog 45 #[.string s] w fun e w' => ParamsPost w (paramsF s.data.toList) e w' := by
 cases hv : valueS s.data.toList
 ·have CV : Hid (∀ w, Calls Tryz.prog 85 #[.string s] w fun e w' => e = .returned (.bool false) ∧ w' = w) := fun w => by rw [← hv]; exact value_any s w hs
  have HN : Hid (paramsF s.data.toList = ([], [], 1)) := by unfold Hid paramsF; rw [if_neg (by simp [hv])]
  clear hv hT
  go_enter Tryz.func45, Tryz.ntmps45
  go_wp2_with fail
  refine (CV.out _).mono ?_
  rintro e w' ⟨rfl, hw'⟩
  have hw'' := hw'.symm
  subst hw''
  clear CV
  go_wp2_with fail
  refine (bad_any 1 _ rfl _).mono ?_
  rintro e w' ⟨rfl, hw'⟩
  have hw'' := hw'.symm
  subst hw''
  go_wp2
  go_ret3
  show ParamsPost _ _ _ _
  rw [HN.out]
  exact paramsPost_none (Below.refl _ _) 1
 ·exact pof_value s w hv hT
theorem rtest (g : Nat) (nm A V : ByteArray) (T : Bool) (w : World) (hE : ∀ w', Below w.heap.size w w' → Calls Tryz.prog 83 #[.string A, .string nm] w' fun e w'' => e = .returned (.bool T) ∧ Below w'.heap.size w' w'') (hc : w.cell? ⟨g, 0, none⟩ = some (.string nm)) :
  Calls Tryz.prog 82 #[.agg #[.string A, .string V], .pointer (some ⟨g, 0, none⟩)] w fun e w' => e = .returned (.bool T) ∧ Below w.heap.size w w' := by
 have hgl : g < w.heap.size := World.block_lt_of_cell? w _ hc
 have hgn : ¬ g = w.heap.size := by omega
 have CF : Hid (∀ w', Below w.heap.size w w' → Calls Tryz.prog 83 #[.string A, .string nm] w' fun e w'' => e = .returned (.bool T) ∧ Below w'.heap.size w' w'') := hE
 clear hE
 go_enter Tryz.func82, Tryz.ntmps82
 go_wp2_with fail
 refine (CF.out _ ((Below.refl _ _).alloc (Nat.le_refl _) _)).mono ?_
 rintro e w1 ⟨rfl, hb1⟩
 clear CF
 go_wp2
 go_ret
 exact ⟨rfl, ((Below.refl _ _).alloc (Nat.le_refl _) _).trans (hb1.mono (by simp))⟩
set_option maxHeartbeats 1000000 in
theorem rfind_some (E : ByteArray → Bool) (g : Nat) (nm : ByteArray) (idx : Int) (b o n c : Nat) (l : List FV) (en : n = l.length) (w : World) (h0 : 1 ≤ n) (hn : n ≤ maxLen) (hg : w.cell? ⟨g, 0, none⟩ = some (.string nm))
  (hE : ∀ f ∈ l, ∀ w', Below w.heap.size w w' → Calls Tryz.prog 83 #[.string f.1, .string nm] w' fun e w'' => e = .returned (.bool (E f.1)) ∧ Below w'.heap.size w' w'')
  (hi1 : ∀ j, j < n → ((j : Int) < idx ∨ idx = -1) → E (l.getD j default).1 = false) (hi2 : ∀ j, j < n → (j : Int) = idx → E (l.getD j default).1 = true) (hi3 : idx < (n : Int)) (hi4 : -1 ≤ idx)
  (hc : ∀ i, i < n → w.cell? ⟨b, o + i * 2, none⟩ = some (.string (l.getD i default).1) ∧ w.cell? ⟨b, o + i * 2 + 1, none⟩ = some (.string (l.getD i default).2)) :
  Calls Tryz.prog 81 #[.slice (some ⟨b, o, none⟩) n c, .func (Fn.func 82) #[] #[.pointer (some ⟨g, 0, none⟩)]] w fun e w' => e = .returned (.int .i64 idx) ∧ Below w.heap.size w w' := by
 unfold maxLen at hn
 have hbB : b < w.heap.size := World.block_lt_of_cell? w _ (hc 0 (by omega)).1
 have hgB : g < w.heap.size := World.block_lt_of_cell? w _ hg
 have HL : Hid (n = l.length) := en
 have HE : Hid (∀ f ∈ l, ∀ w', Below w.heap.size w w' → Calls Tryz.prog 83 #[.string f.1, .string nm] w' fun e w'' => e = .returned (.bool (E f.1)) ∧ Below w'.heap.size w' w'') := hE
 have HI1 : Hid (∀ j, j < n → ((j : Int) < idx ∨ idx = -1) → E (l.getD j default).1 = false) := hi1
 have HI2 : Hid (∀ j, j < n → (j : Int) = idx → E (l.getD j default).1 = true) := hi2
 have HG : Hid (w.cell? ⟨g, 0, none⟩ = some (.string nm)) := hg
 clear en hE hi1 hi2 hg
 go_enter Tryz.func81, Tryz.ntmps81
 go_wp2
 go_loopw [8] (fun iv wr => ∃ k : Nat, k ≤ n ∧ iv = .int .i64 k ∧ Below w.heap.size w wr ∧ Hid (idx = -1 ∨ (k : Int) ≤ idx)) (fun iv _ => n - (intOf iv).toNat)
 case atStart => exact ⟨0, Nat.zero_le _, rfl, Below.refl _ _, by unfold Hid; omega⟩
 case round =>
  obtain ⟨k, hk, rfl, hbel, HK⟩ := hrel
  have hsz := hbel.size
  by_cases hlt : k < n
  ·have hc1 : wr.cell? ⟨b, o + k * 2, none⟩ = some (.string (l.getD k default).1) := (hbel.cell (p := ⟨b, o + k * 2, none⟩) hbB).trans (hc k hlt).1
   have hc2 : wr.cell? ⟨b, o + k * 2 + 1, none⟩ = some (.string (l.getD k default).2) := (hbel.cell (p := ⟨b, o + k * 2 + 1, none⟩) hbB).trans (hc k hlt).2
   have hcg : wr.cell? ⟨g, 0, none⟩ = some (.string nm) := (hbel.cell (p := ⟨g, 0, none⟩) hgB).trans HG.out
   have CD := rtest g nm (l.getD k default).1 (l.getD k default).2 (E (l.getD k default).1) wr (fun w' hb => HE.out _ (fv_mem l k (by rw [← HL.out]; exact hlt)) w' (hbel.trans (hb.mono hsz))) hcg
   by_cases hki : (k : Int) = idx
   ·have HN : Hid ((k : Int) = idx) := hki
    rw [HI2.out k hlt hki] at CD
    clear hc hki hcg
    generalize l.getD k default = f at *
    obtain ⟨A, B⟩ := f
    simp only at hc1 hc2 CD
    have CD' : Hid (Calls Tryz.prog 82 #[.agg #[.string A, .string B], .pointer (some ⟨g, 0, none⟩)] wr fun e w' => e = .returned (.bool true) ∧ Below wr.heap.size wr w') := CD
    clear CD
    go_wp2_with fail
    refine CD'.out.mono ?_
    rintro e w1 ⟨rfl, hb1⟩
    clear CD'
    go_wp2
    go_ret
    exact ⟨by rw [← HN.out]; rfl, hbel.trans (hb1.mono hsz)⟩
   ·have HN : Hid (idx = -1 ∨ ((k + 1 : Nat) : Int) ≤ idx) := by have := HK.out; unfold Hid; omega
    rw [HI1.out k hlt (by have := HK.out; omega)] at CD
    clear hc hki hcg
    generalize l.getD k default = f at *
    obtain ⟨A, B⟩ := f
    simp only at hc1 hc2 CD
    have CD' : Hid (Calls Tryz.prog 82 #[.agg #[.string A, .string B], .pointer (some ⟨g, 0, none⟩)] wr fun e w' => e = .returned (.bool false) ∧ Below wr.heap.size wr w') := CD
    clear CD
    go_wp2_with fail
    refine CD'.out.mono ?_
    rintro e w1 ⟨rfl, hb1⟩
    clear CD'
    go_wp2
    go_roundw
    case rel => exact ⟨k + 1, by omega, by go_num, hbel.trans (hb1.mono hsz), HN⟩
    case measure => simp [intOf]; omega
  ·obtain rfl : k = n := by omega
   have HN : Hid (idx = -1) := by have := HK.out; unfold Hid; omega
   clear hc
   go_wp2
   go_ret
   exact ⟨by rw [HN.out]; rfl, hbel⟩
theorem rfind_nil (g : Nat) (p : Option Addr) (c : Nat) (w : World) :
  Calls Tryz.prog 81 #[.slice p 0 c, .func (Fn.func 82) #[] #[.pointer (some ⟨g, 0, none⟩)]] w fun e w' => e = .returned (.int .i64 (-1)) ∧ w' = w := by
 go_enter Tryz.func81, Tryz.ntmps81
 go_wp2
 refine wp_loop_rounds 1 ?_
 rw [rounds_succ]
 go_wp2
 go_ret
 exact ⟨rfl, rfl⟩
theorem getE_none (E : ByteArray → Bool) : ∀ l : List FV, (∀ f ∈ l, E f.1 = false) → getE E l = ⟨#[]⟩
 | [], _ => rfl
 | f :: l, h => by rw [getE_no E f l (h f (by simp)), getE_none E l (fun x hx => h x (by simp [hx]))]
theorem getE_at (E : ByteArray → Bool) : ∀ (l : List FV) (i : Nat), i < l.length → (∀ j, j < i → E (l.getD j default).1 = false) → E (l.getD i default).1 = true → getE E l = (l.getD i default).2
 | [], i, h, _, _ => by simp at h
 | f :: l, 0, _, _, h => getE_yes E f l h
 | f :: l, i + 1, hi, h1, h2 => by
  rw [getE_no E f l (h1 0 (by omega)), getE_at E l i (by simpa using hi) (fun j hj => h1 (j + 1) (by omega)) h2]
  rfl
theorem got_any (E : ByteArray → Bool) (nm : ByteArray) (p : Option Addr) (n c : Nat) (l : List FV) (en : n = l.length) (w : World) (hn : n ≤ maxLen)
  (hE : ∀ f ∈ l, ∀ w', Below w.heap.size w w' → Calls Tryz.prog 83 #[.string f.1, .string nm] w' fun e w'' => e = .returned (.bool (E f.1)) ∧ Below w'.heap.size w' w'') (hr : FRow w p l) :
  Calls Tryz.prog 44 #[.slice p n c, .string nm] w fun e w' => e = .returned (.string (getE E l)) ∧ Below w.heap.size w w' := by
 have hb0 : Below w.heap.size w (w.alloc (.cells #[.string nm] 9)) := (Below.refl _ _).alloc (Nat.le_refl _) _
 have hgc : (w.alloc (.cells #[.string nm] 9)).cell? ⟨w.heap.size, 0, none⟩ = some (.string nm) := by simp
 have hE' : ∀ f ∈ l, ∀ w', Below (w.alloc (.cells #[.string nm] 9)).heap.size (w.alloc (.cells #[.string nm] 9)) w' → Calls Tryz.prog 83 #[.string f.1, .string nm] w' fun e w'' => e = .returned (.bool (E f.1)) ∧ Below w'.heap.size w' w'' := fun f hf w' hb => hE f hf w' (hb0.trans (hb.mono hb0.size))
 by_cases hex : ∃ f ∈ l, E f.1 = true
 ·have hlt : l.findIdx (fun f => E f.1) < l.length := List.findIdx_lt_length_of_exists hex
  obtain ⟨I, hI⟩ : ∃ I, I = l.findIdx (fun f => E f.1) := ⟨_, rfl⟩
  rw [← hI] at hlt
  have hi1 : ∀ j, j < I → E (l.getD j default).1 = false := fun j hj => by
   rw [hI] at hj
   have := List.not_of_lt_findIdx hj
   simpa [List.getD_eq_getElem?_getD, List.getElem?_eq_getElem (show j < l.length by omega)] using this
  have hi2 : E (l.getD I default).1 = true := by
   have := List.findIdx_getElem (xs := l) (p := fun f => E f.1) (w := by rw [← hI]; exact hlt)
   simp only [← hI] at this
   simpa [List.getD_eq_getElem?_getD, List.getElem?_eq_getElem hlt] using this
  have HN : Hid (getE E l = (l.getD I default).2) := getE_at E l I hlt hi1 hi2
  obtain ⟨b, o, rfl, hc⟩ := hr (fun e => by rw [e] at hlt; simp at hlt)
  rw [← en] at hc hlt
  have hbB : b < w.heap.size := World.block_lt_of_cell? w _ (hc 0 (by omega)).1
  have CI : Hid (Calls Tryz.prog 81 #[.slice (some ⟨b, o, none⟩) n c, .func (Fn.func 82) #[] #[.pointer (some ⟨w.heap.size, 0, none⟩)]] (w.alloc (.cells #[.string nm] 9)) fun e w' => e = .returned (.int .i64 (I : Int)) ∧ Below (w.alloc (.cells #[.string nm] 9)).heap.size (w.alloc (.cells #[.string nm] 9)) w') :=
   rfind_some E w.heap.size nm (I : Int) b o n c l en _ (by omega) hn hgc hE' (fun j hj h => hi1 j (by omega)) (fun j hj h => (show j = I by omega) ▸ hi2) (by omega) (by omega) (fun i hi => ⟨(hb0.cell (p := ⟨b, o + i * 2, none⟩) hbB).trans (hc i hi).1, (hb0.cell (p := ⟨b, o + i * 2 + 1, none⟩) hbB).trans (hc i hi).2⟩)
  have hcI := (hc I hlt).2
  have hIi : (I : Int) < (n : Int) := by omega
  generalize (l.getD I default).2 = V at *
  clear hE hE' hex hi1 hi2 hc hI en hgc hr
  go_enter Tryz.func44, Tryz.ntmps44
  go_wp2_with fail
  refine CI.out.mono ?_
  rintro e w1 ⟨rfl, hb1⟩
  clear CI
  have hb01 := hb0.trans (hb1.mono hb0.size)
  have hc9 : w1.cell? ⟨b, o + I * 2 + 1, none⟩ = some (.string V) := (hb01.cell (p := ⟨b, o + I * 2 + 1, none⟩) hbB).trans hcI
  clear hb0 hb1 hcI
  go_wp2
  go_ret
  exact ⟨by rw [HN.out]; rfl, hb01⟩
 ·have hall : ∀ f ∈ l, E f.1 = false := fun f hf => by
   cases h : E f.1 with
   | false => rfl
   | true => exact absurd ⟨f, hf, h⟩ hex
  have HN : Hid (getE E l = ⟨#[]⟩) := getE_none E l hall
  have CI : Hid (Calls Tryz.prog 81 #[.slice p n c, .func (Fn.func 82) #[] #[.pointer (some ⟨w.heap.size, 0, none⟩)]] (w.alloc (.cells #[.string nm] 9)) fun e w' => e = .returned (.int .i64 (-1)) ∧ Below (w.alloc (.cells #[.string nm] 9)).heap.size (w.alloc (.cells #[.string nm] 9)) w') := by
   by_cases h0 : l = []
   ·subst h0
    obtain rfl : n = 0 := en
    refine (rfind_nil w.heap.size p c _).mono ?_
    rintro e w' ⟨rfl, rfl⟩
    exact ⟨rfl, Below.refl _ _⟩
   ·obtain ⟨b, o, rfl, hc⟩ := hr h0
    rw [← en] at hc
    have h1 : 1 ≤ n := by rw [en]; exact List.length_pos_iff.2 h0
    have hbB : b < w.heap.size := World.block_lt_of_cell? w _ (hc 0 (by omega)).1
    exact rfind_some E w.heap.size nm (-1) b o n c l en _ h1 hn hgc hE' (fun j hj _ => hall _ (fv_mem l j (by rw [← en]; exact hj))) (fun j hj h => by omega) (by omega) (by omega) (fun i hi => ⟨(hb0.cell (p := ⟨b, o + i * 2, none⟩) hbB).trans (hc i hi).1, (hb0.cell (p := ⟨b, o + i * 2 + 1, none⟩) hbB).trans (hc i hi).2⟩)
  clear hE hE' hex hall en hgc hr
  go_enter Tryz.func44, Tryz.ntmps44
  go_wp2_with fail
  refine CI.out.mono ?_
  rintro e w1 ⟨rfl, hb1⟩
  clear CI
  have hb01 := hb0.trans (hb1.mono hb0.size)
  clear hb0 hb1
  go_wp2
  go_ret
  exact ⟨by rw [HN.out]; rfl, hb01⟩
end Go.Proofs.YtlndhdimamnnlaaGreatDoor


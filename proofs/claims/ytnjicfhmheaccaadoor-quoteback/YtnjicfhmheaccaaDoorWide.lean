/- The law's helper 'wide' answers true of a text whose lines are no longer than 76 bytes; nothing that was there is changed. Condition: internal/bytealg.MaxLen holds some number. -/
import Derived.Test.YtnjicfhmheaccaaDoorCommon
import Derived.Test.YtnjicfhmheaccaaDoorShelf
namespace Go.Proofs.YtnjicfhmheaccaaDoor
open Go.RowKit

theorem long_any (s : ByteArray) (w : World) (h : s.size ≤ 76) :
    Calls Tryd.prog 30 #[.string s] w fun e w' => e = .returned (.bool false) ∧ w' = w := by
  have h' : ¬ (76 : Int) < (s.size : Int) := by omega
  go_enter Tryd.func30, Tryd.ntmps30
  go_wp2
  go_ret
  exact ⟨ret_bool (by simp), rfl⟩

set_option maxHeartbeats 1000000 in
theorem indexFunc_none (b n c : Nat) (xs : List ByteArray) (hn : n = xs.length) (hmax : n ≤ 1000000) (w : World)
    (hc : ∀ i, i < n → w.cell? ⟨b, i, none⟩ = some (.string (xs.getD i ByteArray.empty))) (hall : ∀ x ∈ xs, x.size ≤ 76) :
    Calls Tryd.prog 49 #[.slice (some ⟨b, 0, none⟩) n c, .func (Fn.func 30) #[] #[]] w fun e w' => e = .returned (.int .i64 (-1)) ∧ w' = w := by
  have hsz : ∀ i, i < n → (xs.getD i ByteArray.empty).size ≤ 76 := by
    intro i hi
    have e : xs.getD i ByteArray.empty = xs[i] := by simp [List.getD_eq_getElem?_getD, List.getElem?_eq_getElem (show i < xs.length by omega)]
    rw [e]
    exact hall _ (List.getElem_mem (by omega))
  clear hall hn
  go_enter Tryd.func49, Tryd.ntmps49
  go_wp2
  go_loop [8] (fun iv => ∃ k : Nat, k ≤ n ∧ iv = .int .i64 k) (fun iv => n - (intOf iv).toNat)
  case atStart => exact ⟨0, Nat.zero_le _, rfl⟩
  case round =>
    obtain ⟨k, hk, rfl⟩ := hrel
    by_cases hlt : k < n
    · have h1 := hc k hlt
      have h2 := hsz k hlt
      clear hc hsz
      generalize xs.getD k ByteArray.empty = x at *
      go_wp2_with fail
      refine (long_any x w h2).mono ?_
      rintro e w' ⟨rfl, hw'⟩
      have hw'' := hw'.symm
      subst hw''
      go_wp2
      go_round
      case rel => exact ⟨k + 1, by omega, by go_num⟩
      case measure => simp [intOf]; omega
    · clear hc hsz
      go_wp2
      go_ret
      exact ⟨rfl, rfl⟩

theorem containsFunc_none (b n c : Nat) (xs : List ByteArray) (hn : n = xs.length) (hmax : n ≤ 1000000) (w : World)
    (hc : ∀ i, i < n → w.cell? ⟨b, i, none⟩ = some (.string (xs.getD i ByteArray.empty))) (hall : ∀ x ∈ xs, x.size ≤ 76) :
    Calls Tryd.prog 28 #[.slice (some ⟨b, 0, none⟩) n c, .func (Fn.func 30) #[] #[]] w fun e w' => e = .returned (.bool false) ∧ w' = w := by
  have H := indexFunc_none b n c xs hn hmax w hc hall
  clear hn hc hall
  go_enter Tryd.func28, Tryd.ntmps28
  go_wp2_with fail
  refine H.mono ?_
  clear H
  rintro e w' ⟨rfl, hw'⟩
  have hw'' := hw'.symm
  subst hw''
  go_wp2
  go_ret
  exact ⟨rfl, rfl⟩

theorem wide_any (s : ByteArray) (m : Int) (w : World) (hm : w.cell? ⟨0, 0, none⟩ = some (.int .i64 m)) (hs : s.size ≤ 100000)
    (hall : ∀ x ∈ Lib.splitB ⟨#[13, 10]⟩ 0 (Lib.countB s ⟨#[13, 10]⟩) s, x.size ≤ 76) :
    Calls Tryd.prog 11 #[.string s] w fun e w' => e = .returned (.bool true) ∧ Below w.heap.size w w' := by
  have hlen := Lib.splitB_all ⟨#[13, 10]⟩ (by decide) 0 _ s rfl
  have hcl := Lib.countB_le ⟨#[13, 10]⟩ (by decide) s.size s (Nat.le_refl _)
  have hsp := Tryd.strings_Split s ⟨#[13, 10]⟩ m w (by omega) hm (by decide)
  generalize Lib.splitB ⟨#[13, 10]⟩ 0 (Lib.countB s ⟨#[13, 10]⟩) s = xs at *
  generalize Lib.countB s ⟨#[13, 10]⟩ = cnt at *
  have HS := hsp
  clear hsp hm
  have HL : Hid (xs.length = cnt + 1) := hlen
  clear hlen
  go_enter Tryd.func11, Tryd.ntmps11
  go_wp2_with fail
  refine HS.mono ?_
  rintro e w1 ⟨rfl, rfl⟩
  clear HS
  go_wp2_with fail
  refine (containsFunc_none _ _ _ xs HL.out.symm (by omega) _ (fun i hi => ?_) hall).mono ?_
  · have hi' : i < xs.length := by have := HL.out; omega
    rw [World.cell?_alloc_at _ _ _ _ rfl]
    simp [List.getD_eq_getElem?_getD, hi']
  rintro e w' ⟨rfl, hw'⟩
  have hw'' := hw'.symm
  subst hw''
  go_wp2
  go_ret
  exact ⟨rfl, (Below.refl _ _).alloc (Nat.le_refl _) _⟩
end Go.Proofs.YtnjicfhmheaccaaDoor

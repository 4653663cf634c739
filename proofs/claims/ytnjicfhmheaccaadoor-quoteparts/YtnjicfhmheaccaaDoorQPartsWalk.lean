/- The walk of the law QuoteParts: it answers true, and nothing that was there is changed. Condition: internal/bytealg.MaxLen holds some number. -/
import Derived.Test.YtnjicfhmheaccaaDoorQuoted
import Derived.Test.YtnjicfhmheaccaaDoorPlainT
import Derived.Test.YtnjicfhmheaccaaDoorQConcat
import Derived.Test.YtnjicfhmheaccaaDoorEq
import Derived.Deep.RegionWith
namespace Go.Proofs.YtnjicfhmheaccaaDoor
open Go.RowKit

theorem qwrite_gen (p : Option Addr) (n c : Nat) (L : List UInt8) (en : n = L.length) (w : World) (hm : n ≤ maxLen) (hr : BRow w p L) :
    Calls Tryd.prog 13 #[.slice p n c] w fun e w' => ∃ (t : ByteArray) (k : Nat), e = .returned (.tuple #[.string t, .int .i64 (k : Int)]) ∧ Below w.heap.size w w' := by
  by_cases h4 : 4000 < n
  · refine (qwrite_many p n c w h4 hm).mono ?_
    rintro e w' ⟨rfl, rfl⟩
    exact ⟨_, 2, rfl, Below.refl _ _⟩
  · refine (qwrite_any p n c L en w (by omega) hr).mono ?_
    rintro e w' ⟨rfl, hb⟩
    exact ⟨_, 0, rfl, hb⟩

theorem dread_two (L M : List UInt8) (h : L.length + M.length ≤ 4000) (w : World) :
    Calls Tryd.prog 14 #[.string ((⟨(encQ L).toArray⟩ : ByteArray) ++ ⟨(encQ M).toArray⟩)] w fun e w' => ReadPost w (L ++ M, 0) e w' := by
  have hl := enc_length L
  have hm := enc_length M
  have e1 : ((⟨(encQ L).toArray⟩ : ByteArray) ++ ⟨(encQ M).toArray⟩).data.toList = encQ L ++ encQ M := by simp
  have := dread_any ((⟨(encQ L).toArray⟩ : ByteArray) ++ ⟨(encQ M).toArray⟩) w (by rw [Lib.size_eq, e1, List.length_append]; unfold maxLen; omega)
  rw [e1, readQ_two L M h] at this
  exact this

theorem qreplace_plain (L : List UInt8) (h : L.length ≤ 4000) (hp : L.any spotB = false) (m : Int) (w : World) (hm : w.cell? ⟨0, 0, none⟩ = some (.int .i64 m)) :
    Calls Tryd.prog 12 #[.string ⟨(encQ L).toArray⟩, .string ⟨#[61, 13, 10]⟩, .string ⟨#[]⟩] w fun e w' => e = .returned (.string ⟨L.toArray⟩) ∧ Below w.heap.size w w' := by
  have hl := enc_length L
  refine (Tryd.strings_ReplaceAll ⟨(encQ L).toArray⟩ ⟨#[61, 13, 10]⟩ ⟨#[]⟩ m w (by show (encQ L).toArray.size < _; rw [List.size_toArray]; omega) hm (by decide) (by show (encQ L).toArray.size + _ * 0 ≤ _; rw [List.size_toArray]; omega)).mono ?_
  rintro e w' ⟨rfl, hb⟩
  have := enc_plain L (fun c hc => by
    have h := List.any_eq_false.1 hp c hc
    simpa [spotB] using h)
  exact ⟨congrArg (fun l => Ending.returned (.string ⟨List.toArray l⟩)) this, hb⟩

set_option maxHeartbeats 1000000 in
set_option maxRecDepth 100000 in
theorem qparts_first (p q : Option Addr) (n c k d : Nat) (M : List UInt8) (ek : k = M.length) (w : World) (hm : n ≤ maxLen) (h : 4000 < n) (hk : k ≤ maxLen) (hr : BRow w q M) :
    Calls Tryd.prog 6 #[.slice p n c, .slice q k d] w fun e w' => e = .returned (.bool true) ∧ Below w.heap.size w w' := by
  have HR : Hid (BRow w q M) := hr
  have EK : Hid (k = M.length) := ek
  clear hr ek
  go_enter Tryd.func6, Tryd.ntmps6
  go_wp2_with fail
  refine (qwrite_many p n c _ h hm).mono ?_
  rintro e w1 ⟨rfl, hw1⟩
  have hb1 : Below w.heap.size w w1 := by rw [hw1]; exact Below.refl _ _
  clear hw1
  go_wp2_with fail
  refine (qwrite_gen q k d M EK.out _ hk (HR.out.below hb1)).mono ?_
  rintro e w2 ⟨t, kk, rfl, hb2⟩
  have hbw2 := hb1.trans (hb2.mono hb1.size)
  clear hb1 hb2
  go_wp2_with fail
  refine (quoted_any _).mono ?_
  rintro e w3 ⟨rfl, hb3⟩
  go_wp2_with fail
  refine (quoted_any _).mono ?_
  rintro e w4 ⟨rfl, hb4⟩
  have hb := (hbw2.trans (hb3.mono hbw2.size)).trans (hb4.mono (Nat.le_trans hbw2.size hb3.size))
  go_wp2
  go_ret
  exact ⟨rfl, hb⟩

set_option maxHeartbeats 1000000 in
set_option maxRecDepth 100000 in
theorem qparts_second (p q : Option Addr) (n c k d : Nat) (L : List UInt8) (en : n = L.length) (w : World) (hn : L.length ≤ 4000) (hr : BRow w p L) (hk : k ≤ maxLen) (h : 4000 < k) :
    Calls Tryd.prog 6 #[.slice p n c, .slice q k d] w fun e w' => e = .returned (.bool true) ∧ Below w.heap.size w w' := by
  have HR : Hid (BRow w p L) := hr
  have EN : Hid (n = L.length) := en
  clear hr en
  go_enter Tryd.func6, Tryd.ntmps6
  go_wp2_with fail
  refine (qwrite_any p n c L EN.out _ hn HR.out).mono ?_
  rintro e w1 ⟨rfl, hb1⟩
  go_wp2_with fail
  refine (qwrite_many q k d _ h hk).mono ?_
  rintro e w2 ⟨rfl, hw2⟩
  have hb2 : Below w.heap.size w w2 := by rw [hw2]; exact hb1
  clear hw2 hb1
  go_wp2_with fail
  refine (quoted_any _).mono ?_
  rintro e w3 ⟨rfl, hb3⟩
  go_wp2_with fail
  refine (quoted_any _).mono ?_
  rintro e w4 ⟨rfl, hb4⟩
  have hb := (hb2.trans (hb3.mono hb2.size)).trans (hb4.mono (Nat.le_trans hb2.size hb3.size))
  go_wp2
  go_ret
  exact ⟨rfl, hb⟩

set_option maxHeartbeats 1000000 in
theorem qparts_sum (p q : Option Addr) (n c k d : Nat) (L M : List UInt8) (en : n = L.length) (ek : k = M.length) (w : World) (hn : L.length ≤ 4000) (hk : M.length ≤ 4000) (hr : BRow w p L) (hr2 : BRow w q M) (h : 4000 < n + k) :
    Calls Tryd.prog 6 #[.slice p n c, .slice q k d] w fun e w' => e = .returned (.bool true) ∧ Below w.heap.size w w' := by
  have hn' : n ≤ 4000 := by omega
  have hk' : k ≤ 4000 := by omega
  have h' : (4000 : Int) < (n : Int) + (k : Int) := by omega
  have H2 : Hid (BRow w q M) := hr2
  have EN : Hid (n = L.length) := en
  have EK : Hid (k = M.length) := ek
  clear hr2 en ek
  go_enter Tryd.func6, Tryd.ntmps6
  go_wp2_with fail
  refine (qwrite_any p n c L EN.out _ hn hr).mono ?_
  rintro e w1 ⟨rfl, hb1⟩
  have hrM := H2.out.below hb1
  go_wp2_with fail
  refine (qwrite_any q k d M EK.out _ hk hrM).mono ?_
  rintro e w2 ⟨rfl, hb2⟩
  clear hrM
  go_wp2_with fail
  refine (quoted_any _).mono ?_
  rintro e w3 ⟨rfl, hb3⟩
  have hb := (hb1.trans (hb2.mono hb1.size)).trans (hb3.mono (Nat.le_trans hb1.size hb2.size))
  clear hb1 hb2 hb3
  go_wp2_with fail
  refine (quoted_any _).mono ?_
  rintro e w4 ⟨rfl, hb4⟩
  have hb := hb.trans (hb4.mono hb.size)
  go_wp2
  go_ret
  exact ⟨rfl, hb⟩

theorem concat_in (w w4 W : World) (g : Nat) (p q p4 : Option Addr) (n k c d : Nat) (L M : List UInt8) (en : n = L.length) (ek : k = M.length) (h : n + k ≤ 4000) (hr : BRow w p L) (hr2 : BRow w q M) (hp : p = none → n = 0 ∧ c = 0) (hq : q = none → k = 0 ∧ d = 0)
    (hr4 : BRow w4 p4 (L ++ M)) (h1 : W.cell? ⟨g, 0, none⟩ = some (.slice p n c)) (h2 : W.cell? ⟨g, 1, none⟩ = some (.slice q k d)) (hW : Below w.heap.size w W) (h4 : Below w4.heap.size w4 W) :
    Calls Tryd.prog 22 #[.slice (some ⟨g, 0, none⟩) 2 2] W fun e w' => ∃ p' c', e = .returned (.slice p' (n + k) c') ∧ n + k ≤ c' ∧ c' ≤ maxLen ∧ Below w.heap.size w w' ∧ Hid (BRow w' p' (L ++ M)) ∧ Hid (BRow w' p4 (L ++ M)) := by
  refine (concat_two g p q n k c d L M en ek W h1 h2 (hr.below hW) (hr2.below hW) hp hq h).mono ?_
  rintro e w' ⟨hb, p', c', rfl, k1, k2, hr'⟩
  exact ⟨p', c', rfl, k1, k2, hW.trans (hb.mono hW.size), hr', (hr4.below h4).below hb⟩

theorem equal_in (w W : World) (p4 p' : Option Addr) (n m c c' : Nat) (X : List UInt8) (en : n = X.length) (em : m = X.length) (h1 : n ≤ c) (h2 : c ≤ maxLen) (h3 : m ≤ c') (h4 : c' ≤ maxLen) (hr : BRow W p4 X) (hr' : BRow W p' X) (hW : Below w.heap.size w W) :
    Calls Tryd.prog 9 #[.slice p4 n c, .slice p' m c'] W fun e w' => e = .returned (.bool true) ∧ Below w.heap.size w w' := by
  subst en
  subst em
  refine (equalBytes p4 p' _ _ c c' _ _ W (Nat.le_trans h1 h2) (Nat.le_trans h3 h4) (brow_row hr) (brow_row hr')).mono ?_
  rintro e w' ⟨rfl, q, rfl⟩
  exact ⟨by simp, bel_drew hW q⟩

theorem replace_in (w W : World) (L : List UInt8) (h : L.length ≤ 4000) (hp : L.any spotB = false) (m : Int) (hm : W.cell? ⟨0, 0, none⟩ = some (.int .i64 m)) (hW : Below w.heap.size w W) :
    Calls Tryd.prog 12 #[.string ⟨(encQ L).toArray⟩, .string ⟨#[61, 13, 10]⟩, .string ⟨#[]⟩] W fun e w' => e = .returned (.string ⟨L.toArray⟩) ∧ Below w.heap.size w w' := by
  refine (qreplace_plain L h hp m W hm).mono ?_
  rintro e w' ⟨rfl, hb⟩
  exact ⟨rfl, hW.trans (hb.mono hW.size)⟩

theorem conv_row (w : World) (p : Option Addr) (n c : Nat) (L : List UInt8) (en : n = L.length) (hr : BRow w p L) (hp : p = none → n = 0 ∧ c = 0) : (convert 22 9 (.slice p n c)).run Tryd.prog w = .ok (.string ⟨L.toArray⟩) w := by
  subst en
  cases p with
  | none =>
    obtain ⟨h0, rfl⟩ := hp rfl
    obtain rfl : L = [] := List.length_eq_zero_iff.1 h0
    exact convert_nil w
  | some a =>
    refine run_convert_bytes_back (P := Tryd.prog) w 22 9 5 a c L Tryd.underlying22 Tryd.underlying5 Tryd.underlying9 (fun j hj => ?_)
    obtain ⟨b, o, e, hc⟩ := hr (fun e => by rw [e] at hj; exact absurd hj (by simp))
    obtain rfl := Option.some.inj e
    rw [Addr.add_lit, hc j hj]
    simp [List.getD_eq_getElem?_getD, List.getElem?_eq_getElem hj]

end Go.Proofs.YtnjicfhmheaccaaDoor

/- LinkPuts answers true at every page and every list of texts; texts that came in. -/
import Derived.Test.YtnfidloiediflacDoorLPutsLaw
import Derived.Deep.Strs
namespace Go.Proofs.YtnfidloiediflacDoor
open Go.RowKit

theorem linkPuts_any (q a2 : Option Addr) (n c n2 c2 : Nat) (b : List UInt8) (ts : List ByteArray) (en : n = b.length) (et : n2 = ts.length) (w : World) (HE : LEnv w) (hr : BRow w q b) (hs : TxRow w a2 ts) (hts : ∀ t ∈ ts, t.size ≤ maxLen) (hq : q = none → n = 0 ∧ c = 0) (hnc : n ≤ c) (hcm : c ≤ maxLen) :
    Calls Tryd.prog 3 #[.slice q n c, .slice a2 n2 c2] w fun e w' => e = .returned (.bool true) ∧ Below w.heap.size w w' := by
  cases hf : findP lowT b with
  | none => exact puts_err q a2 n c n2 c2 b en w HE hr hq hf
  | some l => exact puts_some q a2 n c n2 c2 b ts en et w HE hr hs hts hq hnc hcm l hf
def TxLen (l : List ByteArray) : Prop := ∀ s ∈ l, s.size ≤ maxLen
/-- A list of texts that came in. -/
theorem texts_open {H : Type} {enc : TypeId × Value → H} {W : World} {base : Nat} {spare : Nat → Bool} {held : Bool} {fuel : Nat} {a0 : Option Addr} {len cap : Nat} {x : DataW H × List MemPlace}
    (h : DataW.trod enc Tryd.prog W base spare held fuel 23 [.slice a0 len cap] = some x) :
    ∃ l : List ByteArray, l.length = len ∧ len ≤ cap ∧ cap ≤ maxLen ∧ (a0 = none → len = 0 ∧ cap = 0) ∧ TxRow W a0 l ∧ TxLen l := by
  rcases Go.Deep.open_strs Tryd.underlying23 Tryd.underlying9 (by kernel_rfl) h with ⟨hcs, _⟩ | ⟨a, l, c, m, F, hcs, _, hl, hm, hmm, _, hF⟩
  · simp at hcs
    obtain ⟨rfl, rfl, rfl⟩ := hcs
    exact ⟨[], rfl, Nat.le_refl _, by decide, fun _ => ⟨rfl, rfl⟩, fun h => absurd rfl h, fun f hf => by cases hf⟩
  · simp at hcs
    obtain ⟨rfl, rfl, rfl⟩ := hcs
    have hlm : len ≤ m := by rw [hmm]; split <;> omega
    refine ⟨(List.range len).map F, by simp, hl, hm, (fun h => by cases h), fun hne => ?_, fun f hf => ?_⟩
    · have hpos : 0 < len := by
        rcases Nat.eq_zero_or_pos len with e | e
        · subst e; exact absurd rfl hne
        · exact e
      obtain ⟨b, o, spot⟩ := a
      have hspot : spot = none := by simpa [Addr.add] using World.cell?_spot (hF 0 (by omega)).1
      subst hspot
      refine ⟨b, o, rfl, fun i hi => ?_⟩
      have hi' : i < len := by simpa using hi
      have e1 : ((List.range len).map F).getD i ⟨#[]⟩ = F i := by simp [List.getD_eq_getElem?_getD, hi']
      have h1 := (hF i (by omega)).1
      rw [Addr.add_lit] at h1
      rw [e1]
      exact h1
    · obtain ⟨i, hi, rfl⟩ := List.mem_map.1 hf
      exact (hF i (Nat.lt_of_lt_of_le (by simpa using hi) hlm)).2
end Go.Proofs.YtnfidloiediflacDoor

/- Parts as they lie in memory. No function of the program. -/
import Derived.Test.YtehiaenicfmpbaaDoorPlainK
import Derived.Test.YtehiaenicfmpbaaDoorCommon
namespace Go.Proofs.YtehiaenicfmpbaaDoor
open Go.RowKit

/-- The seven cells of a part. -/
def PCells (w : World) (b o : Nat) (p : PT) (pb : Option Addr) (cb : Nat) (pk : Option Addr) (ck : Nat) : Prop :=
  w.cell? ⟨b, o, none⟩ = some (.string p.ty) ∧ w.cell? ⟨b, o + 1, none⟩ = some (.string p.cs) ∧ w.cell? ⟨b, o + 2, none⟩ = some (.string p.id) ∧ w.cell? ⟨b, o + 3, none⟩ = some (.string p.loc) ∧
  w.cell? ⟨b, o + 4, none⟩ = some (.int .i64 p.how) ∧ w.cell? ⟨b, o + 5, none⟩ = some (.slice pb p.body.length cb) ∧ w.cell? ⟨b, o + 6, none⟩ = some (.slice pk p.kids.length ck)
/-- Texts, bytes, parts as long as they can be. -/
def PLen (p : PT) : Prop :=
  p.ty.size ≤ maxLen ∧ p.cs.size ≤ maxLen ∧ p.id.size ≤ maxLen ∧ p.loc.size ≤ maxLen ∧ -9223372036854775808 ≤ p.how ∧ p.how ≤ 9223372036854775807 ∧ p.body.length ≤ maxLen ∧ p.kids.length ≤ maxLen
/-- What hangs at a part. -/
def PHeldK (K : Option Addr → List PT → Prop) (w : World) (p : PT) (pb : Option Addr) (cb : Nat) (pk : Option Addr) (ck : Nat) : Prop :=
  PLen p ∧ (p.body.length ≤ cb ∧ cb ≤ maxLen ∧ (pb = none → cb = 0)) ∧ BRow w pb p.body ∧ (p.kids.length ≤ ck ∧ ck ≤ maxLen ∧ (pk = none → ck = 0)) ∧ K pk p.kids
/-- Parts lie behind the address, to the depth f. -/
def KAt (w : World) : Nat → Option Addr → List PT → Prop
  | 0, _, l => l = []
  | f + 1, a, l => l ≠ [] → ∃ b o, a = some ⟨b, o, none⟩ ∧ ∀ i, i < l.length → ∃ pb cb pk ck, PCells w b (o + i * 7) (l.getD i pt0) pb cb pk ck ∧ PHeldK (KAt w f) w (l.getD i pt0) pb cb pk ck
def PHeld (w : World) (f : Nat) (p : PT) (pb : Option Addr) (cb : Nat) (pk : Option Addr) (ck : Nat) : Prop := PHeldK (KAt w f) w p pb cb pk ck
def PAt (w : World) (f : Nat) (b o : Nat) (p : PT) : Prop := ∃ pb cb pk ck, PCells w b o p pb cb pk ck ∧ PHeld w f p pb cb pk ck
/-- A part as a value. -/
def pval (p : PT) (pb : Option Addr) (cb : Nat) (pk : Option Addr) (ck : Nat) : Value :=
  .agg #[.string p.ty, .string p.cs, .string p.id, .string p.loc, .int .i64 p.how, .slice pb p.body.length cb, .slice pk p.kids.length ck]

theorem KAt.each {w : World} {f : Nat} {a : Option Addr} {l : List PT} (h : KAt w (f + 1) a l) (hne : l ≠ []) : ∃ b o, a = some ⟨b, o, none⟩ ∧ ∀ i, i < l.length → PAt w f b (o + i * 7) (l.getD i pt0) := by
  obtain ⟨b, o, e, hc⟩ := h hne
  exact ⟨b, o, e, fun i hi => hc i hi⟩
theorem KAt.mk {w : World} {f b o : Nat} {l : List PT} (h : ∀ i, i < l.length → PAt w f b (o + i * 7) (l.getD i pt0)) : KAt w (f + 1) (some ⟨b, o, none⟩) l := fun _ => ⟨b, o, rfl, fun i hi => h i hi⟩
theorem KAt.nil (w : World) (f : Nat) (a : Option Addr) : KAt w f a [] := by
  cases f with
  | zero => rfl
  | succ f => exact fun h => absurd rfl h

theorem BRow.under {w w' : World} {p : Option Addr} {l : List UInt8} (h : BRow w p l) (hb : Below w.heap.size w w') : BRow w' p l := by
  intro hne
  obtain ⟨b, o, rfl, hc⟩ := h hne
  refine ⟨b, o, rfl, fun i hi => ?_⟩
  have := hc i hi
  rw [hb.cell (p := ⟨b, o + i, none⟩) (World.block_lt_of_cell? w _ this)]
  exact this
theorem PCells.below {w w' : World} {b o : Nat} {p : PT} {pb : Option Addr} {cb : Nat} {pk : Option Addr} {ck : Nat} (h : PCells w b o p pb cb pk ck) (hb : Below w.heap.size w w') : PCells w' b o p pb cb pk ck := by
  obtain ⟨h0, h1, h2, h3, h4, h5, h6⟩ := h
  have hl := World.block_lt_of_cell? w _ h0
  refine ⟨?_, ?_, ?_, ?_, ?_, ?_, ?_⟩
  · rw [hb.cell (p := ⟨b, o, none⟩) hl]; exact h0
  · rw [hb.cell (p := ⟨b, o + 1, none⟩) hl]; exact h1
  · rw [hb.cell (p := ⟨b, o + 2, none⟩) hl]; exact h2
  · rw [hb.cell (p := ⟨b, o + 3, none⟩) hl]; exact h3
  · rw [hb.cell (p := ⟨b, o + 4, none⟩) hl]; exact h4
  · rw [hb.cell (p := ⟨b, o + 5, none⟩) hl]; exact h5
  · rw [hb.cell (p := ⟨b, o + 6, none⟩) hl]; exact h6
theorem PHeldK.mono {K K' : Option Addr → List PT → Prop} {w w' : World} {p : PT} {pb : Option Addr} {cb : Nat} {pk : Option Addr} {ck : Nat} (h : PHeldK K w p pb cb pk ck) (hb : Below w.heap.size w w') (hK : ∀ a l, K a l → K' a l) : PHeldK K' w' p pb cb pk ck :=
  ⟨h.1, h.2.1, h.2.2.1.under hb, h.2.2.2.1, hK _ _ h.2.2.2.2⟩
theorem KAt.below {w w' : World} (hb : Below w.heap.size w w') : ∀ (f : Nat) (a : Option Addr) (l : List PT), KAt w f a l → KAt w' f a l
  | 0, _, _, h => h
  | f + 1, a, l, h => fun hne => by
    obtain ⟨b, o, e, hc⟩ := h hne
    refine ⟨b, o, e, fun i hi => ?_⟩
    obtain ⟨pb, cb, pk, ck, h1, h2⟩ := hc i hi
    exact ⟨pb, cb, pk, ck, h1.below hb, h2.mono hb (KAt.below hb f)⟩
theorem PHeld.below {w w' : World} {f : Nat} {p : PT} {pb : Option Addr} {cb : Nat} {pk : Option Addr} {ck : Nat} (h : PHeld w f p pb cb pk ck) (hb : Below w.heap.size w w') : PHeld w' f p pb cb pk ck := PHeldK.mono h hb (KAt.below hb f)
theorem PAt.below {w w' : World} {f b o : Nat} {p : PT} (h : PAt w f b o p) (hb : Below w.heap.size w w') : PAt w' f b o p := by
  obtain ⟨pb, cb, pk, ck, h1, h2⟩ := h
  exact ⟨pb, cb, pk, ck, h1.below hb, h2.below hb⟩
theorem PAt.lt {w : World} {f b o : Nat} {p : PT} (h : PAt w f b o p) : b < w.heap.size := by
  obtain ⟨pb, cb, pk, ck, h1, h2⟩ := h
  exact World.block_lt_of_cell? w _ h1.1
end Go.Proofs.YtehiaenicfmpbaaDoor

/- Parts that were read: their rows lie in new memory; a count that is written elsewhere changes nothing of them. No function of the program. -/
import Derived.Test.YtpgnkhaanoalhaaGreatDoorXmimeborders16
import Derived.Test.YtpgnkhaanoalhaaGreatDoorXmimeborders38
namespace Go.Proofs.YtpgnkhaanoalhaaGreatDoor
open Go.RowKit

/-- An address lies in a block of some kind. -/
def InB (Q : Nat → Prop) (p : Option Addr) : Prop := ∀ a, p = some a → Q a.block
/-- Parts lie behind the address, to the depth f; their rows, and their bodies, in blocks of some kind. -/
def KFar (w : World) (Q : Nat → Prop) : Nat → Option Addr → List PT → Prop
  | 0, _, l => l = []
  | f + 1, a, l => l ≠ [] → ∃ b o, a = some ⟨b, o, none⟩ ∧ Q b ∧ ∀ i, i < l.length → ∃ pb cb pk ck, PCells w b (o + i * 7) (l.getD i pt0) pb cb pk ck ∧ InB Q pb ∧ PHeldK (KFar w Q f) w (l.getD i pt0) pb cb pk ck
def PFar (w : World) (Q : Nat → Prop) (f : Nat) (p : PT) (pb : Option Addr) (cb : Nat) (pk : Option Addr) (ck : Nat) : Prop := InB Q pb ∧ PHeldK (KFar w Q f) w p pb cb pk ck
theorem KFar.at {w : World} {Q : Nat → Prop} : ∀ (f : Nat) (a : Option Addr) (l : List PT), KFar w Q f a l → KAt w f a l
  | 0, _, _, h => h
  | f + 1, a, l, h => fun hne => by
    obtain ⟨b, o, e, _, hc⟩ := h hne
    refine ⟨b, o, e, fun i hi => ?_⟩
    obtain ⟨pb, cb, pk, ck, h1, _, h2⟩ := hc i hi
    exact ⟨pb, cb, pk, ck, h1, h2.1, h2.2.1, h2.2.2.1, h2.2.2.2.1, KFar.at f _ _ h2.2.2.2.2⟩
theorem PFar.held {w : World} {Q : Nat → Prop} {f : Nat} {p : PT} {pb : Option Addr} {cb : Nat} {pk : Option Addr} {ck : Nat} (h : PFar w Q f p pb cb pk ck) : PHeld w f p pb cb pk ck := ⟨h.2.1, h.2.2.1, h.2.2.2.1, h.2.2.2.2.1, KFar.at f _ _ h.2.2.2.2.2⟩
theorem KFar.nil (w : World) (Q : Nat → Prop) (f : Nat) (a : Option Addr) : KFar w Q f a [] := by
  cases f with
  | zero => rfl
  | succ f => exact fun h => absurd rfl h
theorem KFar.up {w : World} {Q : Nat → Prop} : ∀ (f : Nat) (a : Option Addr) (l : List PT), KFar w Q f a l → KFar w Q (f + 1) a l
  | 0, a, l, h => fun hne => absurd h hne
  | f + 1, a, l, h => fun hne => by
    obtain ⟨b, o, e, hb, hc⟩ := h hne
    refine ⟨b, o, e, hb, fun i hi => ?_⟩
    obtain ⟨pb, cb, pk, ck, h1, hq, h2⟩ := hc i hi
    exact ⟨pb, cb, pk, ck, h1, hq, h2.1, h2.2.1, h2.2.2.1, h2.2.2.2.1, KFar.up f _ _ h2.2.2.2.2⟩
theorem BRow.move {w w' : World} {Q : Nat → Prop} (hm : ∀ b, Q b → b < w.heap.size → w'.heap[b]? = w.heap[b]?) {p : Option Addr} {l : List UInt8} (h : BRow w p l) (hq : InB Q p) : BRow w' p l := by
  intro hne
  obtain ⟨b, o, e, hl⟩ := h hne
  refine ⟨b, o, e, fun i hi => ?_⟩
  have h1 := hl i hi
  rw [World.cell?_of_block (hm b (hq _ e) (World.block_lt_of_cell? w _ h1))]
  exact h1
/-- Where the blocks of that kind are as they were, so are the parts. -/
theorem KFar.move {w w' : World} {Q : Nat → Prop} (hm : ∀ b, Q b → b < w.heap.size → w'.heap[b]? = w.heap[b]?) : ∀ (f : Nat) (a : Option Addr) (l : List PT), KFar w Q f a l → KFar w' Q f a l
  | 0, _, _, h => h
  | f + 1, a, l, h => fun hne => by
    obtain ⟨b, o, e, hb, hc⟩ := h hne
    refine ⟨b, o, e, hb, fun i hi => ?_⟩
    obtain ⟨pb, cb, pk, ck, h1, hq, h2⟩ := hc i hi
    obtain ⟨c0, c1, c2, c3, c4, c5, c6⟩ := h1
    have hbl := hm b hb (World.block_lt_of_cell? w _ c0)
    have k : ∀ j, w'.cell? ⟨b, j, none⟩ = w.cell? ⟨b, j, none⟩ := fun j => World.cell?_of_block hbl
    exact ⟨pb, cb, pk, ck, ⟨(k _).trans c0, (k _).trans c1, (k _).trans c2, (k _).trans c3, (k _).trans c4, (k _).trans c5, (k _).trans c6⟩, hq, h2.1, h2.2.1, BRow.move hm h2.2.2.1 hq, h2.2.2.2.1, KFar.move hm f _ _ h2.2.2.2.2⟩
theorem PFar.move {w w' : World} {Q : Nat → Prop} (hm : ∀ b, Q b → b < w.heap.size → w'.heap[b]? = w.heap[b]?) {f : Nat} {p : PT} {pb : Option Addr} {cb : Nat} {pk : Option Addr} {ck : Nat} (h : PFar w Q f p pb cb pk ck) : PFar w' Q f p pb cb pk ck :=
  ⟨h.1, h.2.1, h.2.2.1, BRow.move hm h.2.2.2.1 h.1, h.2.2.2.2.1, KFar.move hm f _ _ h.2.2.2.2.2⟩
/-- Kinds of blocks. -/
theorem KFar.kind {w : World} {Q Q' : Nat → Prop} (hk : ∀ b, Q b → Q' b) : ∀ (f : Nat) (a : Option Addr) (l : List PT), KFar w Q f a l → KFar w Q' f a l
  | 0, _, _, h => h
  | f + 1, a, l, h => fun hne => by
    obtain ⟨b, o, e, hb, hc⟩ := h hne
    refine ⟨b, o, e, hk b hb, fun i hi => ?_⟩
    obtain ⟨pb, cb, pk, ck, h1, hq, h2⟩ := hc i hi
    exact ⟨pb, cb, pk, ck, h1, (fun a ha => hk _ (hq a ha)), h2.1, h2.2.1, h2.2.2.1, h2.2.2.2.1, KFar.kind hk f _ _ h2.2.2.2.2⟩
theorem PFar.kind {w : World} {Q Q' : Nat → Prop} (hk : ∀ b, Q b → Q' b) {f : Nat} {p : PT} {pb : Option Addr} {cb : Nat} {pk : Option Addr} {ck : Nat} (h : PFar w Q f p pb cb pk ck) : PFar w Q' f p pb cb pk ck :=
  ⟨fun a ha => hk _ (h.1 a ha), h.2.1, h.2.2.1, h.2.2.2.1, h.2.2.2.2.1, KFar.kind hk f _ _ h.2.2.2.2.2⟩
theorem PFar.below {w w' : World} {Q : Nat → Prop} {f : Nat} {p : PT} {pb : Option Addr} {cb : Nat} {pk : Option Addr} {ck : Nat} (h : PFar w Q f p pb cb pk ck) (hb : Below w.heap.size w w') : PFar w' Q f p pb cb pk ck := h.move fun b _ hlt => hb.block b hlt

/-- The count lies there. -/
def CountAt (w : World) (g : Nat) (n : Int) : Prop := w.heap[g]? = some (.cells #[.int .i64 n] 3)
theorem CountAt.cell {w : World} {g : Nat} {n : Int} (h : CountAt w g n) : w.cell? ⟨g, 0, none⟩ = some (.int .i64 n) := (cell_of_row w g 0 #[.int .i64 n] 3 (0, 0) h).trans rfl
theorem CountAt.lt {w : World} {g : Nat} {n : Int} (h : CountAt w g n) : g < w.heap.size := (Array.getElem?_eq_some_iff.1 h).1
theorem CountAt.frozen {w : World} {g : Nat} {n : Int} (h : CountAt w g n) : w.frozen? ⟨g, 0, none⟩ = false := by simp [World.frozen?, show w.heap[g]? = _ from h]
theorem CountAt.set {w : World} {g : Nat} {n : Int} (h : CountAt w g n) (m : Int) : CountAt (w.setCell ⟨g, 0, none⟩ (.int .i64 m)) g m := by
  unfold CountAt
  rw [heap_setCell_same w g 0 #[.int .i64 n] 3 (.int .i64 m) h]
  rfl
theorem CountAt.below {w w' : World} {g : Nat} {n : Int} (h : CountAt w g n) (hb : Below w.heap.size w w') : CountAt w' g n := by
  unfold CountAt
  rw [hb.block g h.lt]
  exact h

theorem BRow.count {w : World} {p : Option Addr} {l : List UInt8} (h : BRow w p l) {g : Nat} {n : Int} (hc : CountAt w g n) (v : Value) : BRow (w.setCell ⟨g, 0, none⟩ v) p l := by
  intro hne
  obtain ⟨b, o, e, hl⟩ := h hne
  refine ⟨b, o, e, fun i hi => ?_⟩
  have h1 := hl i hi
  rw [World.cell?_setCell_other _ _ _ _ (fun e => by rw [← e, hc.cell] at h1; cases h1)]
  exact h1
/-- All as it was, but for the count. -/
def Ticks (w : World) (g : Nat) (m : Int) (w' : World) : Prop := Below w.heap.size (w.setCell ⟨g, 0, none⟩ (.int .i64 m)) w'
theorem Ticks.count {w w' : World} {g : Nat} {n m : Int} (h : Ticks w g m w') (hc : CountAt w g n) : CountAt w' g m := by
  have h1 := hc.set m
  have hs : (w.setCell ⟨g, 0, none⟩ (.int .i64 m)).heap.size = w.heap.size := by simp [World.setCell]
  exact h1.below (by rw [hs]; exact h)
theorem Ticks.bytes {w w' : World} {g : Nat} {n m : Int} (h : Ticks w g m w') (hc : CountAt w g n) {p : Option Addr} {l : List UInt8} (hr : BRow w p l) : BRow w' p l := by
  have h1 := hr.count hc (.int .i64 m)
  have hs : (w.setCell ⟨g, 0, none⟩ (.int .i64 m)).heap.size = w.heap.size := by simp [World.setCell]
  exact h1.under (by rw [hs]; exact h)
theorem set_size (w : World) (g : Nat) (v : Value) : (w.setCell ⟨g, 0, none⟩ v).heap.size = w.heap.size := by simp [World.setCell]
theorem Ticks.size {w w' : World} {g : Nat} {m : Int} (h : Ticks w g m w') : w.heap.size ≤ w'.heap.size := by
  have h1 : Below w.heap.size (w.setCell ⟨g, 0, none⟩ (.int .i64 m)) w' := h
  have h2 := h1.size
  rw [set_size] at h2
  exact h2
theorem Ticks.block {w w' : World} {g : Nat} {m : Int} (h : Ticks w g m w') (b : Nat) (hb : b < w.heap.size) (hg : b ≠ g) : w'.heap[b]? = w.heap[b]? := by
  have h1 : Below w.heap.size (w.setCell ⟨g, 0, none⟩ (.int .i64 m)) w' := h
  rw [h1.block b hb, Below.heap_setCell _ _ _ _ hg]
theorem Ticks.far {w w' : World} {g : Nat} {m : Int} (h : Ticks w g m w') {Q : Nat → Prop} (hq : ∀ b, Q b → b ≠ g) {f : Nat} {p : PT} {pb : Option Addr} {cb : Nat} {pk : Option Addr} {ck : Nat} (hp : PFar w Q f p pb cb pk ck) : PFar w' Q f p pb cb pk ck := hp.move fun b hb hlt => h.block b hlt (hq b hb)
theorem Ticks.trans {w w1 w2 : World} {g : Nat} {n m k : Int} (h1 : Ticks w g m w1) (h2 : Ticks w1 g k w2) (hc : CountAt w g n) : Ticks w g k w2 := by
  have c1 := h1.count hc
  have c2 := h2.count c1
  have b1 : Below w.heap.size (w.setCell ⟨g, 0, none⟩ (.int .i64 m)) w1 := h1
  have b2 : Below w1.heap.size (w1.setCell ⟨g, 0, none⟩ (.int .i64 k)) w2 := h2
  refine ⟨b2.os.trans b1.os, b2.tape.trans b1.tape, b2.output.trans b1.output, ?_, fun i hi => ?_⟩
  · rw [set_size]
    exact Nat.le_trans h1.size h2.size
  · by_cases e : i = g
    · subst e
      rw [show w2.heap[i]? = _ from c2, show (w.setCell ⟨i, 0, none⟩ (.int .i64 k)).heap[i]? = _ from hc.set k]
    · rw [b2.block i (Nat.lt_of_lt_of_le hi h1.size), Below.heap_setCell _ _ _ _ e, b1.block i hi, Below.heap_setCell _ _ _ _ e, Below.heap_setCell _ _ _ _ e]
theorem Ticks.then {w w1 w2 : World} {g : Nat} {m : Int} (h1 : Ticks w g m w1) (h2 : Below w1.heap.size w1 w2) : Ticks w g m w2 := by
  have b1 : Below w.heap.size (w.setCell ⟨g, 0, none⟩ (.int .i64 m)) w1 := h1
  exact b1.trans (h2.mono h1.size)
theorem Ticks.base {w0 w w' : World} {g : Nat} {m : Int} (h : Ticks w g m w') (hb : Below w0.heap.size w0 w) (hg : w0.heap.size ≤ g) : Below w0.heap.size w0 w' :=
  (hb.setCell (p := ⟨g, 0, none⟩) hg (.int .i64 m)).trans (h.mono hb.size)
theorem Ticks.owns {w w' : World} {g : Nat} {m : Int} (h : Ticks w g m w') {B e s k : Nat} {v : Value} {xs : List Value} (ho : w.ownsRow B e s v k xs) (hB : g < B) : w'.ownsRow B e s v k xs := by
  have h1 := ownsRow_setCell_below ho (a := ⟨g, 0, none⟩) hB (.int .i64 m)
  have hs : (w.setCell ⟨g, 0, none⟩ (.int .i64 m)).heap.size = w.heap.size := by simp [World.setCell]
  exact ownsRow_below h1 (by rw [hs]; exact h)
end Go.Proofs.YtpgnkhaanoalhaaGreatDoor

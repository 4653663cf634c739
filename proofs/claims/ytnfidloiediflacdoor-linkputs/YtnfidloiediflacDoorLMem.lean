/- A reader of a page in memory: where it is; what moves it. No function of the program. -/
import Derived.Test.YtnfidloiediflacDoorCommon
import Derived.Below
import Derived.Laws.Rows
namespace Go.Proofs.YtnfidloiediflacDoor
open Go.RowKit

/-- The reader lies there: its page, and where it is. -/
def RdAt (w : World) (g : Nat) (p : ByteArray) (k : Int) : Prop := w.heap[g]? = some (.cells #[.string p, .int .i64 k] 40)
theorem RdAt.page {w : World} {g : Nat} {p : ByteArray} {k : Int} (h : RdAt w g p k) : w.cell? ⟨g, 0, none⟩ = some (.string p) := (cell_of_row w g 0 #[.string p, .int .i64 k] 40 (0, 0) h).trans rfl
theorem RdAt.at_ {w : World} {g : Nat} {p : ByteArray} {k : Int} (h : RdAt w g p k) : w.cell? ⟨g, 1, none⟩ = some (.int .i64 k) := (cell_of_row w g 1 #[.string p, .int .i64 k] 40 (0, 0) h).trans rfl
theorem RdAt.lt {w : World} {g : Nat} {p : ByteArray} {k : Int} (h : RdAt w g p k) : g < w.heap.size := (Array.getElem?_eq_some_iff.1 h).1
theorem RdAt.frozen {w : World} {g : Nat} {p : ByteArray} {k : Int} (h : RdAt w g p k) (o : Nat) : w.frozen? ⟨g, o, none⟩ = false := by simp [World.frozen?, show w.heap[g]? = _ from h]
theorem RdAt.set {w : World} {g : Nat} {p : ByteArray} {k : Int} (h : RdAt w g p k) (m : Int) : RdAt (w.setCell ⟨g, 1, none⟩ (.int .i64 m)) g p m := by
  unfold RdAt
  rw [heap_setCell_same w g 1 #[.string p, .int .i64 k] 40 (.int .i64 m) h]
  rfl
theorem RdAt.below {w w' : World} {g : Nat} {p : ByteArray} {k : Int} (h : RdAt w g p k) (hb : Below w.heap.size w w') : RdAt w' g p k := by
  unfold RdAt
  rw [hb.block g h.lt]
  exact h
theorem RdAt.drew {w : World} {g : Nat} {p : ByteArray} {k : Int} (h : RdAt w g p k) : RdAt w.drew g p k := h
theorem rd_new (w : World) (p : ByteArray) (k : Int) : RdAt (w.alloc (.cells #[.string p, .int .i64 k] 40)) w.heap.size p k := by
  show (w.heap.push _)[w.heap.size]? = _
  rw [Array.getElem?_push, if_pos rfl]
theorem BRow.moved {w : World} {q : Option Addr} {l : List UInt8} (h : BRow w q l) {g : Nat} {p : ByteArray} {k : Int} (hc : RdAt w g p k) (v : Value) : BRow (w.setCell ⟨g, 1, none⟩ v) q l := by
  intro hne
  obtain ⟨b, o, e, hl⟩ := h hne
  refine ⟨b, o, e, fun i hi => ?_⟩
  have h1 := hl i hi
  rw [World.cell?_setCell_other _ _ _ _ (fun e => by rw [← e, hc.at_] at h1; cases h1)]
  exact h1
theorem set1_size (w : World) (g : Nat) (v : Value) : (w.setCell ⟨g, 1, none⟩ v).heap.size = w.heap.size := by simp [World.setCell]
/-- All as it was, but for where the reader is. -/
def Moves (w : World) (g : Nat) (m : Int) (w' : World) : Prop := Below w.heap.size (w.setCell ⟨g, 1, none⟩ (.int .i64 m)) w'
theorem Moves.rd {w w' : World} {g : Nat} {p : ByteArray} {k m : Int} (h : Moves w g m w') (hc : RdAt w g p k) : RdAt w' g p m :=
  (hc.set m).below (by rw [set1_size]; exact h)
theorem Moves.size {w w' : World} {g : Nat} {m : Int} (h : Moves w g m w') : w.heap.size ≤ w'.heap.size := by
  have h1 : Below w.heap.size (w.setCell ⟨g, 1, none⟩ (.int .i64 m)) w' := h
  have h2 := h1.size
  rw [set1_size] at h2
  exact h2
theorem Moves.block {w w' : World} {g : Nat} {m : Int} (h : Moves w g m w') (b : Nat) (hb : b < w.heap.size) (hg : b ≠ g) : w'.heap[b]? = w.heap[b]? := by
  have h1 : Below w.heap.size (w.setCell ⟨g, 1, none⟩ (.int .i64 m)) w' := h
  rw [h1.block b hb, Below.heap_setCell _ _ _ _ hg]
theorem Moves.trans {w w1 w2 : World} {g : Nat} {p : ByteArray} {n m k : Int} (h1 : Moves w g m w1) (h2 : Moves w1 g k w2) (hc : RdAt w g p n) : Moves w g k w2 := by
  have c1 := h1.rd hc
  have c2 := h2.rd c1
  have b1 : Below w.heap.size (w.setCell ⟨g, 1, none⟩ (.int .i64 m)) w1 := h1
  have b2 : Below w1.heap.size (w1.setCell ⟨g, 1, none⟩ (.int .i64 k)) w2 := h2
  refine ⟨b2.os.trans b1.os, b2.tape.trans b1.tape, b2.output.trans b1.output, ?_, fun i hi => ?_⟩
  · rw [set1_size]
    exact Nat.le_trans h1.size h2.size
  · by_cases e : i = g
    · subst e
      rw [show w2.heap[i]? = _ from c2, show (w.setCell ⟨i, 1, none⟩ (.int .i64 k)).heap[i]? = _ from hc.set k]
    · rw [b2.block i (Nat.lt_of_lt_of_le hi h1.size), Below.heap_setCell _ _ _ _ e, b1.block i hi, Below.heap_setCell _ _ _ _ e, Below.heap_setCell _ _ _ _ e]
theorem Moves.then {w w1 w2 : World} {g : Nat} {m : Int} (h1 : Moves w g m w1) (h2 : Below w1.heap.size w1 w2) : Moves w g m w2 := by
  have b1 : Below w.heap.size (w.setCell ⟨g, 1, none⟩ (.int .i64 m)) w1 := h1
  exact b1.trans (h2.mono h1.size)
theorem Moves.base {w0 w w' : World} {g : Nat} {m : Int} (h : Moves w g m w') (hb : Below w0.heap.size w0 w) (hg : w0.heap.size ≤ g) : Below w0.heap.size w0 w' :=
  (hb.setCell (p := ⟨g, 1, none⟩) hg (.int .i64 m)).trans (h.mono hb.size)
theorem Moves.owns {w w' : World} {g : Nat} {m : Int} (h : Moves w g m w') {B e s k : Nat} {v : Value} {xs : List Value} (ho : w.ownsRow B e s v k xs) (hB : g < B) : w'.ownsRow B e s v k xs := by
  have h1 := ownsRow_setCell_below ho (a := ⟨g, 1, none⟩) hB (.int .i64 m)
  exact ownsRow_below h1 (by rw [set1_size]; exact h)
theorem Moves.bytes {w w' : World} {g : Nat} {p : ByteArray} {k m : Int} (h : Moves w g m w') (hc : RdAt w g p k) {q : Option Addr} {l : List UInt8} (hr : BRow w q l) : BRow w' q l :=
  (hr.moved hc (.int .i64 m)).below (by rw [set1_size]; exact h)
/-- It is where it was. -/
theorem Moves.still {w : World} {g : Nat} {p : ByteArray} {k : Int} (hc : RdAt w g p k) : Moves w g k w := by
  unfold Moves
  refine ⟨rfl, rfl, rfl, by simp [World.setCell], fun i hi => ?_⟩
  by_cases e : i = g
  · subst e
    rw [show w.heap[i]? = _ from hc, show (w.setCell ⟨i, 1, none⟩ (.int .i64 k)).heap[i]? = _ from hc.set k]
  · rw [Below.heap_setCell _ _ _ _ e]
theorem Moves.of_set {w : World} {g : Nat} {m : Int} : Moves w g m (w.setCell ⟨g, 1, none⟩ (.int .i64 m)) := by
  unfold Moves
  have := Below.refl w.heap.size (w.setCell ⟨g, 1, none⟩ (.int .i64 m))
  exact this
theorem Moves.of_below {w w' : World} {g : Nat} {p : ByteArray} {k : Int} (hc : RdAt w g p k) (hb : Below w.heap.size w w') : Moves w g k w' := (Moves.still hc).then hb
end Go.Proofs.YtnfidloiediflacDoor

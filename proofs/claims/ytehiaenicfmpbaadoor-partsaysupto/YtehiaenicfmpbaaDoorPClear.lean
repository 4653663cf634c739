/- Parts whose parts are taken away, in a row that the call owns. No function of the program. -/
import Derived.Test.YtehiaenicfmpbaaDoorPCells
import Derived.Test.YtehiaenicfmpbaaDoorPAll
namespace Go.Proofs.YtehiaenicfmpbaaDoor
open Go.RowKit

def clr (z : PZ) : PZ := (z.1.alone, z.2.1, (none, 0))
def clrs (k : Nat) (Z : List PZ) : List PZ := (Z.take k).map clr ++ Z.drop k
theorem clrs_length (k : Nat) (Z : List PZ) (h : k ≤ Z.length) : (clrs k Z).length = Z.length := by
  unfold clrs
  rw [List.length_append, List.length_map, List.length_take, List.length_drop]
  omega
theorem clrs_zero (Z : List PZ) : clrs 0 Z = Z := rfl
theorem clrs_all (Z : List PZ) : clrs Z.length Z = Z.map clr := by
  unfold clrs
  rw [List.take_length, List.drop_length, List.append_nil]
theorem clrs_at (k : Nat) (Z : List PZ) (h : k < Z.length) : clrs k Z = (Z.take k).map clr ++ Z[k] :: Z.drop (k + 1) := by
  unfold clrs
  rw [List.drop_eq_getElem_cons h]
theorem clrs_succ (k : Nat) (Z : List PZ) (h : k < Z.length) : clrs (k + 1) Z = (Z.take k).map clr ++ clr Z[k] :: Z.drop (k + 1) := by
  unfold clrs
  rw [List.take_add_one, List.getElem?_eq_getElem h, List.map_append, List.append_assoc]
  rfl
theorem pz_set (A B : List PZ) (z : PZ) : (pzv (A ++ z :: B)).set (A.length * 7 + 6) (.slice none 0 0) = pzv (A ++ clr z :: B) := by
  rw [pzv_append, pzv_append]
  have e1 : ∀ z : PZ, pzv (z :: B) = pzc z ++ pzv B := fun z => by simp [pzv]
  rw [e1, e1, List.set_append_right _ _ (by rw [pzv_length]; omega), pzv_length, Nat.add_sub_cancel_left, List.set_append_left _ _ (by simp [pzc])]
  rfl
theorem clrs_set (k : Nat) (Z : List PZ) (h : k < Z.length) : (pzv (clrs k Z)).set (k * 7 + 6) (.slice none 0 0) = pzv (clrs (k + 1) Z) := by
  rw [clrs_at k Z h, clrs_succ k Z h]
  have := pz_set ((Z.take k).map clr) (Z.drop (k + 1)) Z[k]
  rw [List.length_map, List.length_take, Nat.min_eq_left (by omega)] at this
  exact this
/-- What a row of parts holds at the seventh cell of a part is a slice. -/
theorem pz_seventh (Z : List PZ) (k : Nat) (h : k < Z.length) : ∃ a n c, (pzv Z)[k * 7 + 6]? = some (.slice a n c) :=
  ⟨_, _, _, pz_at Z k Z[k] (List.getElem?_eq_getElem h) 6 _ rfl⟩

theorem BRow.kept {w : World} {p : Option Addr} {l : List UInt8} (h : BRow w p l) {a : Addr} {x : Option Addr} {n c : Nat} (hc : w.cell? a = some (.slice x n c)) (v : Value) : BRow (w.setCell a v) p l := by
  intro hne
  obtain ⟨b, o, e, hl⟩ := h hne
  refine ⟨b, o, e, fun i hi => ?_⟩
  have h1 := hl i hi
  rw [World.cell?_setCell_other _ _ _ _ (fun e => by rw [e] at hc; rw [hc] at h1; cases h1)]
  exact h1
/-- A part without its parts lies there. -/
def Alone (w : World) (z : PZ) : Prop := PHeld w 0 z.1.alone z.2.1.1 z.2.1.2 none 0
theorem Alone.of {w : World} {F : Nat} {z : PZ} (h : PHeld w F z.1 z.2.1.1 z.2.1.2 z.2.2.1 z.2.2.2) : Alone w z := by
  obtain ⟨⟨h1, h2, h3, h4, h5, h6, h7, _⟩, hb, hr, _, _⟩ := h
  exact ⟨⟨h1, h2, h3, h4, h5, h6, h7, Nat.zero_le _⟩, hb, hr, ⟨Nat.le_refl _, by decide, fun _ => rfl⟩, KAt.nil _ _ _⟩
theorem Alone.kept {w : World} {z : PZ} (h : Alone w z) {a : Addr} {x : Option Addr} {n c : Nat} (hc : w.cell? a = some (.slice x n c)) (v : Value) : Alone (w.setCell a v) z :=
  ⟨h.1, h.2.1, h.2.2.1.kept hc v, h.2.2.2.1, KAt.nil _ _ _⟩
end Go.Proofs.YtehiaenicfmpbaaDoor

/- The law's small bundle. -/
import Derived.Test.YtehiaenicfmpbaaDoorPAll
import Derived.Lib.SlBytesConst
namespace Go.Proofs.YtehiaenicfmpbaaDoor
open Go.RowKit

def bodyA : List UInt8 := [60, 97, 32, 104, 114, 101, 102, 61, 39, 99, 39, 62, 60, 105, 109, 103, 32, 83, 82, 67, 61, 99, 105, 100, 58, 120, 62, 60, 97, 32, 104, 114, 101, 102, 61, 35, 100, 62]
def partA : PT := ⟨⟨#[116, 101, 120, 116, 47, 104, 116, 109, 108]⟩, ⟨#[117, 116, 102, 45, 56]⟩, ⟨#[]⟩, ⟨#[]⟩, 2, bodyA, []⟩
def partB : PT := ⟨⟨#[105, 109, 97, 103, 101, 47, 112, 110, 103]⟩, ⟨#[]⟩, ⟨#[120]⟩, ⟨#[99]⟩, 1, [1, 2, 3], []⟩
def smallT : PT := ⟨⟨#[109, 117, 108, 116, 105, 112, 97, 114, 116, 47, 114, 101, 108, 97, 116, 101, 100]⟩, ⟨#[]⟩, ⟨#[]⟩, ⟨#[104, 116, 116, 112, 58, 47, 47, 104, 47, 97, 47, 98]⟩, 0, [], [partA, partB]⟩

theorem BRow_lit (w : World) (L : List UInt8) (C : Array Value) (hC : C = (bv L).toArray) (t : TypeId) (fr : Nat × Nat) (b : Nat) (hb : b = w.heap.size) : BRow (w.alloc (.cells C t fr)) (some ⟨b, 0, none⟩) L := by
  subst hC hb
  intro _
  refine ⟨w.heap.size, 0, rfl, fun i hi => ?_⟩
  rw [Nat.zero_add, World.cell?_alloc_mark w _ t fr i]
  simp [bv, List.getD_eq_getElem?_getD, List.getElem?_eq_getElem hi]

theorem cell_lits (w : World) (c : List Value) (t : TypeId) (b j k : Nat) (x : Value) (hb : b = w.heap.size) (hk : k = j) (h : c[j]? = some x) : (w.alloc (.cells c.toArray t)).cell? ⟨b, k, none⟩ = some x := by
  subst hk
  have := cell_seven w c t b hb k x h
  rwa [Addr.add_lit, Nat.zero_add] at this
theorem lens (p : PT) (h : (decide (p.ty.size ≤ 1000000) && decide (p.cs.size ≤ 1000000) && decide (p.id.size ≤ 1000000) && decide (p.loc.size ≤ 1000000) && decide (-1000 ≤ p.how) && decide (p.how ≤ 1000) && decide (p.body.length ≤ 1000000) && decide (p.kids.length ≤ 1000000)) = true) : PLen p := by
  simp only [Bool.and_eq_true, decide_eq_true_eq] at h
  obtain ⟨⟨⟨⟨⟨⟨⟨a, b⟩, c⟩, d⟩, e⟩, f⟩, g⟩, k⟩ := h
  unfold PLen maxLen
  omega

theorem kc_at (w : World) (X : Obj) (C : Array Value) (n c : Nat) : (convert 22 22 (.slice (some ⟨w.heap.size + 1, 0, none⟩) n c)).run Tryd.prog ((w.alloc X).alloc (.cells C 5)) = .ok (.slice (some ⟨w.heap.size + 1, 0, none⟩) n c) ((w.alloc X).alloc (.cells C 5 (C.size, C.size + 1))) := by
  have h := Lib.run_convert_bytes_const (P := Tryd.prog) (w.alloc X) 22 5 C n c Tryd.underlying22 Tryd.underlying5
  rw [World.size_alloc] at h
  exact h

set_option maxHeartbeats 1000000 in
set_option maxRecDepth 100000 in
theorem psmall_any (w : World) : Calls Tryd.prog 124 #[] w fun e w' => ∃ g, e = .returned (.agg #[.string smallT.ty, .string smallT.cs, .string smallT.id, .string smallT.loc, .int .i64 smallT.how, .slice none smallT.body.length 0, .slice (some ⟨g, 0, none⟩) smallT.kids.length 2]) ∧ PHeld w' 1 smallT none 0 (some ⟨g, 0, none⟩) 2 ∧ Below w.heap.size w w' := by
  have kc := fun (X : Obj) (C : Array Value) (n c : Nat) => kc_at w X C n c
  go_enter Tryd.func124, Tryd.ntmps124
  go_wp2
  (try simp only [Exit.inBlock, Exit.then])
  refine bodyPost_ret (v := .agg #[.string smallT.ty, .string smallT.cs, .string smallT.id, .string smallT.loc, .int .i64 smallT.how, .slice none smallT.body.length 0, .slice (some ⟨w.heap.size + 1 + 1 + 1, 0, none⟩) smallT.kids.length 2]) ?_ rfl ⟨_, rfl, ?_, ?_⟩
  · refine results_cell_row rfl _ _ w.heap.size 65 _ (0, 0) _ rfl ?_ Tryd.underlying65 rfl (by kernel_rfl)
    exact (Below.heap_alloc _ _ _ (by simp; omega)).trans ((Below.heap_alloc _ _ _ (by simp; omega)).trans ((Below.heap_alloc _ _ _ (by simp)).trans (heap_alloc_new w _)))
  · have hA := BRow_lit (w.alloc (.cells #[.string smallT.ty, .string smallT.cs, .string smallT.id, .string smallT.loc, .int .i64 smallT.how, .slice none 0 0, .slice (some ⟨w.heap.size + 1 + 1 + 1, 0, none⟩) 2 2] 65)) bodyA _ rfl 5 (38, 39) (w.heap.size + 1) (by simp)
    have hB := BRow_lit ((w.alloc (.cells #[.string smallT.ty, .string smallT.cs, .string smallT.id, .string smallT.loc, .int .i64 smallT.how, .slice none 0 0, .slice (some ⟨w.heap.size + 1 + 1 + 1, 0, none⟩) 2 2] 65)).alloc (.cells (bv bodyA).toArray 5 (38, 39))) [1, 2, 3] _ rfl 5 (0, 0) (w.heap.size + 1 + 1) (by simp)
    refine ⟨lens _ (by decide), ⟨by decide, by decide, fun _ => rfl⟩, fun h => absurd rfl h, ⟨by decide, by decide, fun h => by cases h⟩, KAt.mk fun i hi => ?_⟩
    have hi2 : i < 2 := hi
    match i, hi2 with
    | 0, _ =>
      refine ⟨some ⟨w.heap.size + 1, 0, none⟩, 38, none, 0, ⟨?_, ?_, ?_, ?_, ?_, ?_, ?_⟩, lens _ (by decide), ⟨by decide, by decide, fun h => by cases h⟩, ?_, ⟨by decide, by decide, fun _ => rfl⟩, rfl⟩
      · exact cell_lits _ _ _ _ 0 _ _ (by simp) rfl rfl
      · exact cell_lits _ _ _ _ 1 _ _ (by simp) rfl rfl
      · exact cell_lits _ _ _ _ 2 _ _ (by simp) rfl rfl
      · exact cell_lits _ _ _ _ 3 _ _ (by simp) rfl rfl
      · exact cell_lits _ _ _ _ 4 _ _ (by simp) rfl rfl
      · exact cell_lits _ _ _ _ 5 _ _ (by simp) rfl rfl
      · exact cell_lits _ _ _ _ 6 _ _ (by simp) rfl rfl
      · exact hA.under (((Below.refl _ _).alloc (Nat.le_refl _) _).alloc (by simp) _)
    | 1, _ =>
      refine ⟨some ⟨w.heap.size + 1 + 1, 0, none⟩, 3, none, 0, ⟨?_, ?_, ?_, ?_, ?_, ?_, ?_⟩, lens _ (by decide), ⟨by decide, by decide, fun h => by cases h⟩, ?_, ⟨by decide, by decide, fun _ => rfl⟩, rfl⟩
      · exact cell_lits _ _ _ _ 7 _ _ (by simp) rfl rfl
      · exact cell_lits _ _ _ _ 8 _ _ (by simp) rfl rfl
      · exact cell_lits _ _ _ _ 9 _ _ (by simp) rfl rfl
      · exact cell_lits _ _ _ _ 10 _ _ (by simp) rfl rfl
      · exact cell_lits _ _ _ _ 11 _ _ (by simp) rfl rfl
      · exact cell_lits _ _ _ _ 12 _ _ (by simp) rfl rfl
      · exact cell_lits _ _ _ _ 13 _ _ (by simp) rfl rfl
      · exact hB.under ((Below.refl _ _).alloc (Nat.le_refl _) _)
  · exact ((((Below.refl _ w).alloc (Nat.le_refl _) _).alloc (by simp) _).alloc (by simp; omega) _).alloc (by simp; omega) _
end Go.Proofs.YtehiaenicfmpbaaDoor

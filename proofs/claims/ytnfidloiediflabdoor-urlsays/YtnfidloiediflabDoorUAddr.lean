/- The law's closed fact 'addressed' answers true; nothing that was there is changed. Condition: internal/bytealg.MaxLen holds a number. -/
import Derived.Test.YtnfidloiediflabDoorULead2
namespace Go.Proofs.YtnfidloiediflabDoor
open Go.RowKit

/-- Eight cells of a block that is kept. -/
theorem kept8 {W W' : World} {v0 v1 v2 v3 v4 v5 v6 v7 : Value} {t : TypeId} (hb : Below (W.alloc (.cells #[v0, v1, v2, v3, v4, v5, v6, v7] t)).heap.size (W.alloc (.cells #[v0, v1, v2, v3, v4, v5, v6, v7] t)) W') :
    W'.heap[W.heap.size]? = some (.cells #[v0, v1, v2, v3, v4, v5, v6, v7] t) := by
  rw [hb.block _ (by simp)]
  show (W.heap.push _)[W.heap.size]? = _
  simp
theorem kept_on {W W' : World} {k : Nat} {o : Obj} (h : W.heap[k]? = some o) (hb : Below W.heap.size W W') : W'.heap[k]? = some o := by
  rw [hb.block _ (Array.getElem?_eq_some_iff.1 h).1]; exact h
theorem kept_alloc {W : World} {k : Nat} {o o' : Obj} (h : W.heap[k]? = some o) : (W.alloc o').heap[k]? = some o := kept_on h ((Below.refl _ _).alloc (Nat.le_refl _) _)
theorem cells_8 {W : World} {k : Nat} {t : TypeId} {v0 v1 v2 v3 v4 v5 v6 v7 : Value} (h : W.heap[k]? = some (.cells #[v0, v1, v2, v3, v4, v5, v6, v7] t)) :
    W.cell? ⟨k, 0, none⟩ = some v0 ∧ W.cell? ⟨k, 1, none⟩ = some v1 ∧ W.cell? ⟨k, 2, none⟩ = some v2 ∧ W.cell? ⟨k, 3, none⟩ = some v3 ∧ W.cell? ⟨k, 4, none⟩ = some v4 ∧ W.cell? ⟨k, 5, none⟩ = some v5 ∧ W.cell? ⟨k, 6, none⟩ = some v6 ∧ W.cell? ⟨k, 7, none⟩ = some v7 ∧ ∀ i, W.frozen? ⟨k, i, none⟩ = false :=
  ⟨blk_cell h 0, blk_cell h 1, blk_cell h 2, blk_cell h 3, blk_cell h 4, blk_cell h 5, blk_cell h 6, blk_cell h 7, blk_frozen h⟩
theorem kept_ltn {W : World} {k : Nat} {o : Obj} (h : W.heap[k]? = some o) : k < W.heap.size := (Array.getElem?_eq_some_iff.1 h).1
theorem kept_lt {W : World} {k : Nat} {o : Obj} (h : W.heap[k]? = some o) : ¬ k = W.heap.size := by have := (Array.getElem?_eq_some_iff.1 h).1; omega

set_option maxHeartbeats 4000000 in
set_option maxRecDepth 100000 in
theorem addr_walk (w : World) (bs bh bp bq bf us uh up uq uf xs xh xp xq xf S : ByteArray) (bhh bhq bhf uhh uhq uhf xhh xhq xhf : Bool) (hS : S.toList = [104, 116, 116, 112, 58, 47, 47, 104, 47, 100, 35, 101]) (hq : bq.toList = [99])
    (CP : Hid (∀ W, Calls Tryd.prog 9 #[.string ⟨#[72, 84, 84, 80, 58, 47, 47, 72, 47, 97, 47, 98, 63, 99]⟩] W fun e w' => e = .returned (.tuple #[.agg #[.string bs, .bool bhh, .string bh, .string bp, .bool bhq, .string bq, .bool bhf, .string bf], .int .i64 0]) ∧ Below W.heap.size W w'))
    (CQ : Hid (∀ W, Calls Tryd.prog 9 #[.string ⟨#[46, 46, 47, 100, 35, 101]⟩] W fun e w' => e = .returned (.tuple #[.agg #[.string us, .bool uhh, .string uh, .string up, .bool uhq, .string uq, .bool uhf, .string uf], .int .i64 0]) ∧ Below W.heap.size W w'))
    (CL : Hid (∀ W, Below w.heap.size w W → Calls Tryd.prog 10 #[.agg #[.string bs, .bool bhh, .string bh, .string bp, .bool bhq, .string bq, .bool bhf, .string bf], .agg #[.string us, .bool uhh, .string uh, .string up, .bool uhq, .string uq, .bool uhf, .string uf]] W fun e w' => e = .returned (.tuple #[.agg #[.string xs, .bool xhh, .string xh, .string xp, .bool xhq, .string xq, .bool xhf, .string xf], .int .i64 0]) ∧ Below W.heap.size W w'))
    (CR : Hid (∀ W, Calls Tryd.prog 8 #[.agg #[.string xs, .bool xhh, .string xh, .string xp, .bool xhq, .string xq, .bool xhf, .string xf]] W fun e w' => e = .returned (.tuple #[.string S, .int .i64 0]) ∧ Below W.heap.size W w')) :
    Calls Tryd.prog 14 #[] w fun e w' => e = .returned (.bool true) ∧ Below w.heap.size w w' := by
  go_enter Tryd.func14, Tryd.ntmps14
  go_wp2_with fail
  refine (CP.out _).mono ?_
  rintro e w1 ⟨rfl, hb1⟩
  clear CP
  go_wp2_with fail
  refine (CQ.out _).mono ?_
  rintro e w2 ⟨rfl, hb2⟩
  clear CQ
  have HB := kept8 hb2
  have hbe2 : Below w.heap.size w w2 := (hb1.alloc hb1.size _).trans (hb2.mono (by have := hb1.size; simp; omega))
  clear hb2
  obtain ⟨c0, c1, c2, c3, c4, c5, c6, c7, _⟩ := cells_8 HB
  have hn := kept_lt HB
  have hn2 := kept_ltn HB
  go_wp2_with fail
  refine (CL.out _ (hbe2.alloc hbe2.size _)).mono ?_
  rintro e w3 ⟨rfl, hb3⟩
  clear CL
  have HB3 := kept_on (kept_alloc HB) hb3
  have hbe3 : Below w.heap.size w w3 := (hbe2.alloc hbe2.size _).trans (hb3.mono (by have := hbe2.size; simp; omega))
  clear hb3 HB c0 c1 c2 c3 c4 c5 c6 c7 hn hn2
  have hn := kept_lt HB3
  have hn2 := kept_ltn HB3
  go_wp2_with fail
  refine (CR.out _).mono ?_
  rintro e w4 ⟨rfl, hb4⟩
  clear CR
  have HB4 := kept_on (kept_alloc HB3) hb4
  have hbe4 : Below w.heap.size w w4 := (hbe3.alloc hbe3.size _).trans (hb4.mono (by have := hbe3.size; simp; omega))
  clear hb4 HB3
  obtain ⟨c0, c1, c2, c3, c4, c5, c6, c7, _⟩ := cells_8 HB4
  go_wp2
  go_ret
  exact ⟨rfl, hbe4⟩

def bU : UL := ⟨[104, 116, 116, 112], true, [104], [47, 97, 47, 98], true, [99], false, []⟩
def uU : UL := ⟨[], false, [], [46, 46, 47, 100], false, [], true, [101]⟩
def xU : UL := ⟨[104, 116, 116, 112], true, [104], [47, 100], false, [], true, [101]⟩
theorem bU_is : parseU [72, 84, 84, 80, 58, 47, 47, 72, 47, 97, 47, 98, 63, 99] = (bU, 0) := by kernel_rfl
theorem uU_is : parseU [46, 46, 47, 100, 35, 101] = (uU, 0) := by kernel_rfl
theorem xU_is : leadU bU uU = (xU, 0) := by kernel_rfl
theorem sU_is : printU xU = ([104, 116, 116, 112, 58, 47, 47, 104, 47, 100, 35, 101], 0) := by kernel_rfl
theorem small_short (u : UL) (h : u.sch.length ≤ 120 ∧ u.hst.length ≤ 120 ∧ u.pth.length ≤ 120 ∧ u.qry.length ≤ 120 ∧ u.frg.length ≤ 120) : (ofL u).short maxLen := by
  obtain ⟨h1, h2, h3, h4, h5⟩ := h
  have e : ∀ l : List UInt8, (ByteArray.mk l.toArray).size = l.length := bar_size
  unfold maxLen
  refine ⟨?_, ?_, ?_, ?_, ?_⟩
  · show (ByteArray.mk u.sch.toArray).size ≤ _; rw [e]; omega
  · show (ByteArray.mk u.hst.toArray).size ≤ _; rw [e]; omega
  · show (ByteArray.mk u.pth.toArray).size ≤ _; rw [e]; omega
  · show (ByteArray.mk u.qry.toArray).size ≤ _; rw [e]; omega
  · show (ByteArray.mk u.frg.toArray).size ≤ _; rw [e]; omega
/-- addressed. -/
theorem addr_any (w : World) (hM : MaxAt w) : Calls Tryd.prog 14 #[] w fun e w' => e = .returned (.bool true) ∧ Below w.heap.size w w' := by
  refine addr_walk w (bar bU.sch) (bar bU.hst) (bar bU.pth) (bar bU.qry) (bar bU.frg) (bar uU.sch) (bar uU.hst) (bar uU.pth) (bar uU.qry) (bar uU.frg) (bar xU.sch) (bar xU.hst) (bar xU.pth) (bar xU.qry) (bar xU.frg) (bar [104, 116, 116, 112, 58, 47, 47, 104, 47, 100, 35, 101]) bU.hh bU.hq bU.hf uU.hh uU.hq uU.hf xU.hh xU.hq xU.hf (by rw [ByteArray.toList_eq]; rfl) (by rw [ByteArray.toList_eq]; rfl) ?_ ?_ ?_ ?_
  · intro W
    have := uparse_any ⟨#[72, 84, 84, 80, 58, 47, 47, 72, 47, 97, 47, 98, 63, 99]⟩ (by decide) W
    rw [show (ByteArray.mk #[72, 84, 84, 80, 58, 47, 47, 72, 47, 97, 47, 98, 63, 99]).data.toList = [72, 84, 84, 80, 58, 47, 47, 72, 47, 97, 47, 98, 63, 99] from rfl, bU_is] at this
    exact this
  · intro W
    have := uparse_any ⟨#[46, 46, 47, 100, 35, 101]⟩ (by decide) W
    rw [show (ByteArray.mk #[46, 46, 47, 100, 35, 101]).data.toList = [46, 46, 47, 100, 35, 101] from rfl, uU_is] at this
    exact this
  · intro W hb
    have := ulead_any (ofL bU) (ofL uU) (small_short _ (by decide)) (small_short _ (by decide)) W (hM.below hb)
    rw [ofL_l, ofL_l, xU_is] at this
    exact this
  · intro W
    have := uprint_any (ofL xU) (small_short _ (by decide)) W
    rw [ofL_l, sU_is] at this
    exact this
end Go.Proofs.YtnfidloiediflabDoor

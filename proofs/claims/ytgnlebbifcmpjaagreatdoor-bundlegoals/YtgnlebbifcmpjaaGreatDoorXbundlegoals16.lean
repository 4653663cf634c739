/- strings.Cut at one byte: what the plain function says; nothing that was there is changed. Condition: the text is no longer than a text can be. -/
import Derived.Test.YtgnlebbifcmpjaaGreatDoorXbundlegoals1
import Derived.Test.YtgnlebbifcmpjaaGreatDoorXbundlegoals14
import Derived.Test.YtgnlebbifcmpjaaGreatDoorXbundlegoals3
import Derived.Test.YtgnlebbifcmpjaaGreatDoorXbundlegoals15
namespace Go.Proofs.YtgnlebbifcmpjaaGreatDoor
open Go.RowKit

/-- Where the first d is. -/
def whereB (d : UInt8) (l : List UInt8) : Int := match cutB d l with | none => -1 | some x => (x.1.length : Int)
theorem whereB_none {d : UInt8} {l : List UInt8} (h : cutB d l = none) : whereB d l = -1 := by rw [whereB, h]
theorem whereB_some {d : UInt8} {l : List UInt8} {x : List UInt8 × List UInt8} (h : cutB d l = some x) : whereB d l = (x.1.length : Int) := by rw [whereB, h]

theorem indexByte_where (d : UInt8) : ∀ l : List UInt8, Lib.indexByte l d = whereB d l
  | [] => rfl
  | b :: l => by
    rw [Lib.indexByte, indexByte_where d l]
    by_cases h : b = d
    · subst h; simp [whereB, cutB]
    · rw [if_neg (by simpa using h)]
      cases hc : cutB d l with
      | none => simp [whereB, cutB, h, hc]
      | some x =>
        have h1 : ¬ ((x.1.length : Int) == -1) = true := by rw [beq_iff_eq]; omega
        simp only [whereB, cutB, hc, h, if_false, Option.map_some, List.length_cons]
        rw [if_neg h1]
        omega

theorem cutB_none_drop (d : UInt8) (l : List UInt8) (k : Nat) (hk : k < l.length) (h1 : cutB d (l.drop k) = none) : l.getD k 0 ≠ d ∧ cutB d (l.drop (k + 1)) = none := by
  rw [List.drop_eq_getElem_cons hk, cutB] at h1
  split at h1
  · cases h1
  · rename_i e
    refine ⟨by simpa [List.getD_eq_getElem?_getD, List.getElem?_eq_getElem hk] using e, ?_⟩
    cases hc : cutB d (l.drop (k + 1)) with
    | none => rfl
    | some x => rw [hc] at h1; cases h1

theorem ba_cut (d : UInt8) (X : ByteArray) (n v : List UInt8) (h : X.data.toList = n ++ d :: v) : ∃ NM VL : ByteArray, X.extract 0 n.length = NM ∧ X.extract (n.length + 1) X.size = VL ∧ NM.data.toList = n ∧ VL.data.toList = v ∧ X.size = n.length + 1 + v.length := by
  have hl : X.size = n.length + 1 + v.length := by rw [Lib.size_eq, h]; simp; omega
  have e1 : (X.extract 0 n.length).data.toList = n := by rw [Lib.extract_data, h]; simp
  have e2 : (X.extract (n.length + 1) X.size).data.toList = v := by
    rw [Lib.extract_data, h, hl, show n.length + 1 + v.length - (n.length + 1) = v.length from by omega, ← List.drop_drop]
    simp
  exact ⟨_, _, rfl, rfl, e1, e2, hl⟩

theorem ba_inj {a b : ByteArray} (h : a.data.toList = b.data.toList) : a = b := ByteArray.ext (Array.toList_inj.1 h)

theorem lite_none (d : UInt8) (s : ByteArray) (w : World) (h : cutB d s.data.toList = none) :
    Calls Tryz.prog 125 #[.string s, .string ⟨#[d]⟩] w fun e w' => e = .returned (.tuple #[.string s, .string ⟨#[]⟩, .bool false]) ∧ w' = w := by
  have C := Tryz.stringslite_Index_one s d w
  rw [indexByte_where, whereB_none h] at C
  clear h
  have HC : Hid (Calls Tryz.prog 149 #[.string s, .string ⟨#[d]⟩] w fun e w' => e = .returned (.int .i64 (-1)) ∧ w' = w) := C
  clear C
  go_enter Tryz.func125, Tryz.ntmps125
  go_wp2_with fail
  refine HC.out.mono ?_
  rintro e w' ⟨rfl, hw'⟩
  have hw'' := hw'.symm
  subst hw''
  clear HC
  go_wp2
  go_ret3
  exact ⟨rfl, rfl⟩

set_option maxHeartbeats 1000000 in
theorem lite_someW (d : UInt8) (s a r : ByteArray) (w : World) (hs : s.size ≤ 9223372036854775807) (h : cutB d s.data.toList = some (a.data.toList, r.data.toList)) :
    Calls Tryz.prog 125 #[.string s, .string ⟨#[d]⟩] w fun e w' => e = .returned (.tuple #[.string a, .string r, .bool true]) ∧ Below w.heap.size w w' := by
  have C := Tryz.stringslite_Index_one s d w
  rw [indexByte_where, whereB_some h] at C
  simp only at C
  obtain ⟨A, R, h1, h2, h3, h4, h5⟩ := ba_cut d s _ _ (cutB_some d _ _ _ h).1
  have hA := ba_inj h3
  have hR := ba_inj h4
  subst hA hR
  obtain ⟨I, hI⟩ : ∃ I, I = A.data.toList.length := ⟨_, rfl⟩
  rw [← hI] at C h1 h2 h5
  have hI1 : (I : Int) < (s.size : Int) := by omega
  have hI2 : (I : Int) + 1 ≤ (s.size : Int) := by omega
  have HC : Hid (Calls Tryz.prog 149 #[.string s, .string ⟨#[d]⟩] w fun e w' => e = .returned (.int .i64 (I : Int)) ∧ w' = w) := C
  clear C h h3 h4 h5 hI
  go_enter Tryz.func125, Tryz.ntmps125
  go_wp2_with fail
  refine HC.out.mono ?_
  rintro e w' ⟨rfl, hw'⟩
  have hw'' := hw'.symm
  subst hw''
  clear HC
  go_wp2
  go_region
  go_wp2
  go_ret3
  exact ⟨rfl, (Below.refl _ _).drew⟩

theorem cut_none (d : UInt8) (s : ByteArray) (w : World) (h : cutB d s.data.toList = none) :
    Calls Tryz.prog 69 #[.string s, .string ⟨#[d]⟩] w fun e w' => e = .returned (.tuple #[.string s, .string ⟨#[]⟩, .bool false]) ∧ Below w.heap.size w w' := by
  have HC : Hid (Calls Tryz.prog 125 #[.string s, .string ⟨#[d]⟩] w fun e w' => e = .returned (.tuple #[.string s, .string ⟨#[]⟩, .bool false]) ∧ w' = w) := lite_none d s w h
  clear h
  go_enter Tryz.func69, Tryz.ntmps69
  go_wp2_with fail
  refine HC.out.mono ?_
  rintro e w' ⟨rfl, hw'⟩
  have hw'' := hw'.symm
  subst hw''
  clear HC
  go_wp2
  go_ret3
  exact ⟨rfl, Below.refl _ _⟩
theorem cut_someW (d : UInt8) (s a r : ByteArray) (w : World) (hs : s.size ≤ 9223372036854775807) (h : cutB d s.data.toList = some (a.data.toList, r.data.toList)) :
    Calls Tryz.prog 69 #[.string s, .string ⟨#[d]⟩] w fun e w' => e = .returned (.tuple #[.string a, .string r, .bool true]) ∧ Below w.heap.size w w' := by
  have HC : Hid (Calls Tryz.prog 125 #[.string s, .string ⟨#[d]⟩] w fun e w' => e = .returned (.tuple #[.string a, .string r, .bool true]) ∧ Below w.heap.size w w') := lite_someW d s a r w hs h
  clear h
  go_enter Tryz.func69, Tryz.ntmps69
  go_wp2_with fail
  refine HC.out.mono ?_
  rintro e w' ⟨rfl, hb⟩
  clear HC
  go_wp2
  go_ret3
  exact ⟨rfl, hb⟩
theorem cut_some (d : UInt8) (s a r : ByteArray) (w : World) (hs : s.size ≤ 1000000000) (h : cutB d s.data.toList = some (a.data.toList, r.data.toList)) :
    Calls Tryz.prog 69 #[.string s, .string ⟨#[d]⟩] w fun e w' => e = .returned (.tuple #[.string a, .string r, .bool true]) ∧ Below w.heap.size w w' :=
  cut_someW d s a r w (by omega) h

/-- What is ahead of, and behind, a byte, as texts. -/
theorem cut_parts {d : UInt8} {s : ByteArray} {x : List UInt8 × List UInt8} (h : cutB d s.data.toList = some x) : ∃ a r : ByteArray, x = (a.data.toList, r.data.toList) ∧ s.size = a.size + 1 + r.size := by
  refine ⟨⟨x.1.toArray⟩, ⟨x.2.toArray⟩, rfl, ?_⟩
  have e := (cutB_some d s.data.toList x.1 x.2 h).1
  rw [Lib.size_eq, e, Lib.size_eq, Lib.size_eq]
  simp only [List.length_append, List.length_cons]
  omega

end Go.Proofs.YtgnlebbifcmpjaaGreatDoor

/- bundle.withoutFrag, bundle.Led: what the plain functions say; nothing that was there is changed. Conditions: the texts are no longer than a text can be; internal/bytealg.MaxLen holds a number. -/
namespace Go.Proofs.YtgnlebbifcmpjaaGreatDoor
open Go.RowKit

set_option maxHeartbeats 1000000 in
/-- bundle.withoutFrag. -/
theorem bfrag_any (s : ByteArray) (hs : s.size ≤ maxLen) (w : World) :
    Calls Tryz.prog 92 #[.string s] w fun e w' => e = .returned (.string ⟨(noFr s.data.toList).toArray⟩) ∧ Below w.heap.size w w' := by
  unfold noFr
  cases h : cutB 35 s.data.toList with
  | none =>
    have C : Hid (Calls Tryz.prog 69 #[.string s, .string ⟨#[35]⟩] w fun e w' => e = .returned (.tuple #[.string s, .string ⟨#[]⟩, .bool false]) ∧ Below w.heap.size w w') := cut_none 35 s w h
    clear h
    go_enter Tryz.func92, Tryz.ntmps92
    go_wp2_with fail
    refine C.out.mono ?_
    rintro e w1 ⟨rfl, hb⟩
    clear C
    go_wp2_with fail
    go_ret
    exact ⟨rfl, hb⟩
  | some x =>
    obtain ⟨a, r, rfl, -⟩ := cut_parts h
    have C : Hid (Calls Tryz.prog 69 #[.string s, .string ⟨#[35]⟩] w fun e w' => e = .returned (.tuple #[.string a, .string r, .bool true]) ∧ Below w.heap.size w w') := cut_someW 35 s a r w (by unfold maxLen at hs; omega) h
    clear h
    go_enter Tryz.func92, Tryz.ntmps92
    go_wp2_with fail
    refine C.out.mono ?_
    rintro e w1 ⟨rfl, hb⟩
    clear C
    go_wp2_with fail
    go_ret
    exact ⟨rfl, hb⟩

theorem set_same {W : World} {r i : Nat} {c : Array Value} {t : TypeId} (h : W.heap[r]? = some (.cells c t)) (v : Value) : (W.setCell ⟨r, i, none⟩ v).heap[r]? = some (.cells (c.setIfInBounds i v) t) := heap_setCell_same W r i c t v h
/-- Eight cells are written, from o on. -/
abbrev fill8 (W : World) (r o : Nat) (v0 v1 v2 v3 v4 v5 v6 v7 : Value) : World := (((((((W.setCell ⟨r, o, none⟩ v0).setCell ⟨r, o + 1, none⟩ v1).setCell ⟨r, o + 2, none⟩ v2).setCell ⟨r, o + 3, none⟩ v3).setCell ⟨r, o + 4, none⟩ v4).setCell ⟨r, o + 5, none⟩ v5).setCell ⟨r, o + 6, none⟩ v6).setCell ⟨r, o + 7, none⟩ v7
theorem fill8_heap {W : World} {r o : Nat} {c : Array Value} {t : TypeId} (h : W.heap[r]? = some (.cells c t)) (v0 v1 v2 v3 v4 v5 v6 v7 : Value) :
    (fill8 W r o v0 v1 v2 v3 v4 v5 v6 v7).heap[r]? = some (.cells ((((((((c.setIfInBounds o v0).setIfInBounds (o + 1) v1).setIfInBounds (o + 2) v2).setIfInBounds (o + 3) v3).setIfInBounds (o + 4) v4).setIfInBounds (o + 5) v5).setIfInBounds (o + 6) v6).setIfInBounds (o + 7) v7) t) :=
  set_same (set_same (set_same (set_same (set_same (set_same (set_same (set_same h v0) v1) v2) v3) v4) v5) v6) v7
theorem fill_lo {W : World} {r : Nat} {t : TypeId} {c0 c1 c2 c3 c4 c5 c6 c7 c8 c9 c10 c11 c12 c13 c14 c15 : Value} (h : W.heap[r]? = some (.cells #[c0, c1, c2, c3, c4, c5, c6, c7, c8, c9, c10, c11, c12, c13, c14, c15] t)) (v0 v1 v2 v3 v4 v5 v6 v7 : Value) :
    (fill8 W r 0 v0 v1 v2 v3 v4 v5 v6 v7).heap[r]? = some (.cells #[v0, v1, v2, v3, v4, v5, v6, v7, c8, c9, c10, c11, c12, c13, c14, c15] t) := (fill8_heap h v0 v1 v2 v3 v4 v5 v6 v7).trans (by simp)
theorem fill_hi {W : World} {r : Nat} {t : TypeId} {c0 c1 c2 c3 c4 c5 c6 c7 c8 c9 c10 c11 c12 c13 c14 c15 : Value} (h : W.heap[r]? = some (.cells #[c0, c1, c2, c3, c4, c5, c6, c7, c8, c9, c10, c11, c12, c13, c14, c15] t)) (v0 v1 v2 v3 v4 v5 v6 v7 : Value) :
    (fill8 W r 8 v0 v1 v2 v3 v4 v5 v6 v7).heap[r]? = some (.cells #[c0, c1, c2, c3, c4, c5, c6, c7, v0, v1, v2, v3, v4, v5, v6, v7] t) := (fill8_heap h v0 v1 v2 v3 v4 v5 v6 v7).trans (by simp)
theorem fill8_below {w W : World} (h : Below w.heap.size w W) {r : Nat} (hr : w.heap.size ≤ r) (o : Nat) (v0 v1 v2 v3 v4 v5 v6 v7 : Value) : Below w.heap.size w (fill8 W r o v0 v1 v2 v3 v4 v5 v6 v7) :=
  (((((((h.setCell (p := ⟨r, o, none⟩) hr v0).setCell (p := ⟨r, o + 1, none⟩) hr v1).setCell (p := ⟨r, o + 2, none⟩) hr v2).setCell (p := ⟨r, o + 3, none⟩) hr v3).setCell (p := ⟨r, o + 4, none⟩) hr v4).setCell (p := ⟨r, o + 5, none⟩) hr v5).setCell (p := ⟨r, o + 6, none⟩) hr v6).setCell (p := ⟨r, o + 7, none⟩) hr v7
theorem blk_c {W : World} {k : Nat} {c : Array Value} {t : TypeId} (h : W.heap[k]? = some (.cells c t)) (i : Nat) : W.cell? ⟨k, i, none⟩ = c[i]? := by
  simp [World.cell?, h]
theorem blk_f {W : World} {k : Nat} {c : Array Value} {t : TypeId} (h : W.heap[k]? = some (.cells c t)) (i : Nat) : W.frozen? ⟨k, i, none⟩ = false := by
  simp [World.frozen?, h]
theorem blk_on {W W' : World} {k : Nat} {o : Obj} (h : W.heap[k]? = some o) (hb : Below W.heap.size W W') : W'.heap[k]? = some o := by
  rw [hb.block _ (Array.getElem?_eq_some_iff.1 h).1]; exact h
theorem blk_new (W : World) (o : Obj) : (W.alloc o).heap[W.heap.size]? = some o := by
  show (W.heap.push _)[W.heap.size]? = _
  simp

set_option maxHeartbeats 8000000 in
set_option maxRecDepth 100000 in
theorem bled_walk (w : World) (a b bs bh bp bq bf us uh up uq uf xs xh xp xq xf S : ByteArray) (bhh bhq bhf uhh uhq uhf xhh xhq xhf : Bool) (e1 e2 e3 e4 : Nat)
    (CP : Hid (∀ W, Calls Tryz.prog 23 #[.string a] W fun e w' => e = .returned (.tuple #[.agg #[.string bs, .bool bhh, .string bh, .string bp, .bool bhq, .string bq, .bool bhf, .string bf], .int .i64 (e1 : Int)]) ∧ Below W.heap.size W w'))
    (CQ : Hid (∀ W, Calls Tryz.prog 23 #[.string b] W fun e w' => e = .returned (.tuple #[.agg #[.string us, .bool uhh, .string uh, .string up, .bool uhq, .string uq, .bool uhf, .string uf], .int .i64 (e2 : Int)]) ∧ Below W.heap.size W w'))
    (CL : Hid (∀ W, Below w.heap.size w W → Calls Tryz.prog 55 #[.agg #[.string bs, .bool bhh, .string bh, .string bp, .bool bhq, .string bq, .bool bhf, .string bf], .agg #[.string us, .bool uhh, .string uh, .string up, .bool uhq, .string uq, .bool uhf, .string uf]] W fun e w' => e = .returned (.tuple #[.agg #[.string xs, .bool xhh, .string xh, .string xp, .bool xhq, .string xq, .bool xhf, .string xf], .int .i64 (e3 : Int)]) ∧ Below W.heap.size W w'))
    (CR : Hid (∀ W, Calls Tryz.prog 56 #[.agg #[.string xs, .bool xhh, .string xh, .string xp, .bool xhq, .string xq, .bool xhf, .string xf]] W fun e w' => e = .returned (.tuple #[.string S, .int .i64 (e4 : Int)]) ∧ Below W.heap.size W w')) :
    Calls Tryz.prog 13 #[.string a, .string b] w fun e w' => e = .returned (.string (if e1 ≠ 0 then ⟨#[]⟩ else if e2 ≠ 0 then ⟨#[]⟩ else if e3 ≠ 0 then ⟨#[]⟩ else S)) ∧ Below w.heap.size w w' := by
  have hix0 : ∀ W, (Instr.index 93 (.agg #[.string a, .string b]) (.int .i64 0)).run Tryz.prog W = .ok (.string a) W := fun W => by kernel_rfl
  have hix1 : ∀ W, (Instr.index 93 (.agg #[.string a, .string b]) (.int .i64 1)).run Tryz.prog W = .ok (.string b) W := fun W => by kernel_rfl
  obtain ⟨R, hR⟩ : ∃ R, (if e1 ≠ 0 then ⟨#[]⟩ else if e2 ≠ 0 then ⟨#[]⟩ else if e3 ≠ 0 then ⟨#[]⟩ else S) = R := ⟨_, rfl⟩
  rw [hR]
  have HR : Hid ((if e1 ≠ 0 then ⟨#[]⟩ else if e2 ≠ 0 then ⟨#[]⟩ else if e3 ≠ 0 then ⟨#[]⟩ else S) = R) := hR
  clear hR
  go_enter Tryz.func13, Tryz.ntmps13
  go_wp2_with fail
  refine wp_loop_rounds 3 ?_
  rw [rounds_succ]
  go_wp2_with fail
  refine (CP.out _).mono ?_
  rintro e W1 ⟨rfl, hb1⟩
  clear CP
  have hk1 : W1.heap[w.heap.size]? = some (.cells #[.string ⟨#[]⟩, .bool false, .string ⟨#[]⟩, .string ⟨#[]⟩, .bool false, .string ⟨#[]⟩, .bool false, .string ⟨#[]⟩, .string ⟨#[]⟩, .bool false, .string ⟨#[]⟩, .string ⟨#[]⟩, .bool false, .string ⟨#[]⟩, .bool false, .string ⟨#[]⟩] 92) := blk_on (blk_new w _) hb1
  have hbe1 : Below w.heap.size w W1 := ((Below.refl _ w).alloc (Nat.le_refl _) _).trans (hb1.mono (by simp))
  clear hb1
  have hf1 := blk_f hk1
  have z0 : W1.cell? ⟨w.heap.size, 0, none⟩ = some (.string ⟨#[]⟩) := (blk_c hk1 0).trans rfl
  have z1 : W1.cell? ⟨w.heap.size, 1, none⟩ = some (.bool false) := (blk_c hk1 1).trans rfl
  have z2 : W1.cell? ⟨w.heap.size, 2, none⟩ = some (.string ⟨#[]⟩) := (blk_c hk1 2).trans rfl
  have z3 : W1.cell? ⟨w.heap.size, 3, none⟩ = some (.string ⟨#[]⟩) := (blk_c hk1 3).trans rfl
  have z4 : W1.cell? ⟨w.heap.size, 4, none⟩ = some (.bool false) := (blk_c hk1 4).trans rfl
  have z5 : W1.cell? ⟨w.heap.size, 5, none⟩ = some (.string ⟨#[]⟩) := (blk_c hk1 5).trans rfl
  have z6 : W1.cell? ⟨w.heap.size, 6, none⟩ = some (.bool false) := (blk_c hk1 6).trans rfl
  have z7 : W1.cell? ⟨w.heap.size, 7, none⟩ = some (.string ⟨#[]⟩) := (blk_c hk1 7).trans rfl
  by_cases h1 : e1 = 0
  · subst h1
    have HR1 : Hid ((if e2 ≠ 0 then ⟨#[]⟩ else if e3 ≠ 0 then ⟨#[]⟩ else S) = R) := by unfold Hid; have h := HR.out; rw [if_neg (show ¬ (0 : Nat) ≠ 0 by simp)] at h; exact h
    clear HR
    go_wp2_with fail
    rw [rounds_succ]
    go_wp2_with fail
    have hk2 := fill_lo hk1 (.string bs) (.bool bhh) (.string bh) (.string bp) (.bool bhq) (.string bq) (.bool bhf) (.string bf)
    have hbe2 := fill8_below hbe1 (Nat.le_refl _) 0 (.string bs) (.bool bhh) (.string bh) (.string bp) (.bool bhq) (.string bq) (.bool bhf) (.string bf)
    obtain ⟨V2, hV2⟩ : ∃ W, W = (((((((W1.setCell ⟨w.heap.size, 0, none⟩ (.string bs)).setCell ⟨w.heap.size, 1, none⟩ (.bool bhh)).setCell ⟨w.heap.size, 2, none⟩ (.string bh)).setCell ⟨w.heap.size, 3, none⟩ (.string bp)).setCell ⟨w.heap.size, 4, none⟩ (.bool bhq)).setCell ⟨w.heap.size, 5, none⟩ (.string bq)).setCell ⟨w.heap.size, 6, none⟩ (.bool bhf)).setCell ⟨w.heap.size, 7, none⟩ (.string bf) := ⟨_, rfl⟩
    have hV2' : fill8 W1 w.heap.size 0 (.string bs) (.bool bhh) (.string bh) (.string bp) (.bool bhq) (.string bq) (.bool bhf) (.string bf) = V2 := hV2.symm
    rw [hV2'] at hk2 hbe2
    rw [← hV2]
    clear hV2 hV2'
    refine (CQ.out _).mono ?_
    rintro e W2 ⟨rfl, hb2⟩
    clear CQ
    have hk3 := blk_on hk2 hb2
    have hbe3 : Below w.heap.size w W2 := hbe2.trans (hb2.mono hbe2.size)
    clear hb2 hk2 hbe2 hk1 hbe1 hf1 z0 z1 z2 z3 z4 z5 z6 z7
    have hf1 := blk_f hk3
    have z8 : W2.cell? ⟨w.heap.size, 8, none⟩ = some (.string ⟨#[]⟩) := (blk_c hk3 8).trans rfl
    have z9 : W2.cell? ⟨w.heap.size, 9, none⟩ = some (.bool false) := (blk_c hk3 9).trans rfl
    have z10 : W2.cell? ⟨w.heap.size, 10, none⟩ = some (.string ⟨#[]⟩) := (blk_c hk3 10).trans rfl
    have z11 : W2.cell? ⟨w.heap.size, 11, none⟩ = some (.string ⟨#[]⟩) := (blk_c hk3 11).trans rfl
    have z12 : W2.cell? ⟨w.heap.size, 12, none⟩ = some (.bool false) := (blk_c hk3 12).trans rfl
    have z13 : W2.cell? ⟨w.heap.size, 13, none⟩ = some (.string ⟨#[]⟩) := (blk_c hk3 13).trans rfl
    have z14 : W2.cell? ⟨w.heap.size, 14, none⟩ = some (.bool false) := (blk_c hk3 14).trans rfl
    have z15 : W2.cell? ⟨w.heap.size, 15, none⟩ = some (.string ⟨#[]⟩) := (blk_c hk3 15).trans rfl
    by_cases h2 : e2 = 0
    · subst h2
      have HR2 : Hid ((if e3 ≠ 0 then ⟨#[]⟩ else S) = R) := by unfold Hid; have h := HR1.out; rw [if_neg (show ¬ (0 : Nat) ≠ 0 by simp)] at h; exact h
      clear HR1
      go_wp2_with fail
      rw [rounds_succ]
      have hk4 := fill_hi hk3 (.string us) (.bool uhh) (.string uh) (.string up) (.bool uhq) (.string uq) (.bool uhf) (.string uf)
      have hbe4 := fill8_below hbe3 (Nat.le_refl _) 8 (.string us) (.bool uhh) (.string uh) (.string up) (.bool uhq) (.string uq) (.bool uhf) (.string uf)
      obtain ⟨W3, hW3⟩ : ∃ W, W = (((((((W2.setCell ⟨w.heap.size, 8, none⟩ (.string us)).setCell ⟨w.heap.size, 9, none⟩ (.bool uhh)).setCell ⟨w.heap.size, 10, none⟩ (.string uh)).setCell ⟨w.heap.size, 11, none⟩ (.string up)).setCell ⟨w.heap.size, 12, none⟩ (.bool uhq)).setCell ⟨w.heap.size, 13, none⟩ (.string uq)).setCell ⟨w.heap.size, 14, none⟩ (.bool uhf)).setCell ⟨w.heap.size, 15, none⟩ (.string uf) := ⟨_, rfl⟩
      have hW3' : fill8 W2 w.heap.size 8 (.string us) (.bool uhh) (.string uh) (.string up) (.bool uhq) (.string uq) (.bool uhf) (.string uf) = W3 := hW3.symm
      rw [hW3'] at hk4 hbe4
      rw [← hW3]
      clear hW3'
      clear hW3 hk3 hbe3 hf1 z8 z9 z10 z11 z12 z13 z14 z15
      have hc := blk_c hk4
      have hf := blk_f hk4
      have k0 : W3.cell? ⟨w.heap.size, 0, none⟩ = some (.string bs) := hc 0
      have k1 : W3.cell? ⟨w.heap.size, 1, none⟩ = some (.bool bhh) := hc 1
      have k2 : W3.cell? ⟨w.heap.size, 2, none⟩ = some (.string bh) := hc 2
      have k3 : W3.cell? ⟨w.heap.size, 3, none⟩ = some (.string bp) := hc 3
      have k4 : W3.cell? ⟨w.heap.size, 4, none⟩ = some (.bool bhq) := hc 4
      have k5 : W3.cell? ⟨w.heap.size, 5, none⟩ = some (.string bq) := hc 5
      have k6 : W3.cell? ⟨w.heap.size, 6, none⟩ = some (.bool bhf) := hc 6
      have k7 : W3.cell? ⟨w.heap.size, 7, none⟩ = some (.string bf) := hc 7
      have k8 : W3.cell? ⟨w.heap.size, 8, none⟩ = some (.string us) := hc 8
      have k9 : W3.cell? ⟨w.heap.size, 9, none⟩ = some (.bool uhh) := hc 9
      have k10 : W3.cell? ⟨w.heap.size, 10, none⟩ = some (.string uh) := hc 10
      have k11 : W3.cell? ⟨w.heap.size, 11, none⟩ = some (.string up) := hc 11
      have k12 : W3.cell? ⟨w.heap.size, 12, none⟩ = some (.bool uhq) := hc 12
      have k13 : W3.cell? ⟨w.heap.size, 13, none⟩ = some (.string uq) := hc 13
      have k14 : W3.cell? ⟨w.heap.size, 14, none⟩ = some (.bool uhf) := hc 14
      have k15 : W3.cell? ⟨w.heap.size, 15, none⟩ = some (.string uf) := hc 15
      clear hk4 hc
      go_wp2_with fail
      refine (CL.out _ hbe4).mono ?_
      rintro e W4 ⟨rfl, hb4⟩
      clear CL
      have hbe5 : Below w.heap.size w W4 := hbe4.trans (hb4.mono hbe4.size)
      clear hb4 hbe4 k0 k1 k2 k3 k4 k5 k6 k7 k8 k9 k10 k11 k12 k13 k14 k15 hf
      by_cases h3 : e3 = 0
      · subst h3
        have HR3 : Hid (R = S) := by unfold Hid; have h := HR2.out; rw [if_neg (show ¬ (0 : Nat) ≠ 0 by simp)] at h; exact h.symm
        clear HR2
        go_wp2_with fail
        refine (CR.out _).mono ?_
        rintro e W5 ⟨rfl, hb5⟩
        clear CR
        have hbe6 : Below w.heap.size w W5 := (hbe5.alloc hbe5.size _).trans (hb5.mono (by have := hbe5.size; simp; omega))
        clear hb5 hbe5
        go_wp2_with fail
        go_ret
        exact ⟨by rw [HR3.out]; rfl, hbe6⟩
      · have HN : Hid (R = ⟨#[]⟩) := by unfold Hid; rw [← HR2.out, if_pos h3]
        clear HR2
        have h3z : ((e3 : Int) == 0) = false := by rw [beq_eq_false_iff_ne]; omega
        go_wp2_with fail
        go_ret
        exact ⟨by rw [HN.out]; rfl, hbe5.alloc hbe5.size _⟩
    · have HN : Hid (R = ⟨#[]⟩) := by unfold Hid; rw [← HR1.out, if_pos h2]
      clear HR1
      have h2z : ((e2 : Int) == 0) = false := by rw [beq_eq_false_iff_ne]; omega
      go_wp2_with fail
      go_ret
      exact ⟨by rw [HN.out]; rfl, fill8_below hbe3 (Nat.le_refl _) 8 _ _ _ _ _ _ _ _⟩
  · have HN : Hid (R = ⟨#[]⟩) := by unfold Hid; rw [← HR.out, if_pos h1]
    clear HR
    have h1z : ((e1 : Int) == 0) = false := by rw [beq_eq_false_iff_ne]; omega
    go_wp2_with fail
    go_ret
    exact ⟨by rw [HN.out]; rfl, fill8_below hbe1 (Nat.le_refl _) 0 _ _ _ _ _ _ _ _⟩
end Go.Proofs.YtgnlebbifcmpjaaGreatDoor

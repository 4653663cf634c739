
import Derived.Test.YtbbfcbodhmeanaaGreatDoorXbundlemore12
import Derived.Lib.AppendStr
namespace Go.Proofs.YtbbfcbodhmeanaaGreatDoor
open Go.RowKit
def KRow (w : World) (p : Option Addr) (N : Nat) (l : List LK) : Prop := l ≠ [] → ∃ b, p = some ⟨b, 0, none⟩ ∧ ∀ i, i < l.length → w.cell? ⟨b, i * 3, none⟩ = some (.int .i64 ((N - (l.getD i (0, [])).1 : Nat) : Int)) ∧ w.cell? ⟨b, i * 3 + 1, none⟩ = some (.int .i64 ((N - (l.getD i (0, [])).1 + (l.getD i (0, [])).2.length : Nat) : Int)) ∧ w.cell? ⟨b, i * 3 + 2, none⟩ = some (.string (lba (unamp (l.getD i (0, [])).2)))
theorem KRow.below {w w' : World} {p : Option Addr} {N : Nat} {l : List LK} (h : KRow w p N l) (hb : Below w.heap.size w w') : KRow w' p N l := by
 intro hne
 obtain ⟨b, rfl, hc⟩ := h hne
 refine ⟨b, rfl, fun i hi => ?_⟩
 obtain ⟨c0, c1, c2⟩ := hc i hi
 have hlt := World.block_lt_of_cell? w _ c0
 exact ⟨(hb.cell (p := ⟨b, i * 3, none⟩) hlt).trans c0, (hb.cell (p := ⟨b, i * 3 + 1, none⟩) hlt).trans c1, (hb.cell (p := ⟨b, i * 3 + 2, none⟩) hlt).trans c2⟩
theorem lv_get (N : Nat) : ∀ (l : List LK) (i : Nat), i < l.length → (lv N l)[i * 3]? = some (.int .i64 ((N - (l.getD i (0, [])).1 : Nat) : Int)) ∧ (lv N l)[i * 3 + 1]? = some (.int .i64 ((N - (l.getD i (0, [])).1 + (l.getD i (0, [])).2.length : Nat) : Int)) ∧ (lv N l)[i * 3 + 2]? = some (.string (lba (unamp (l.getD i (0, [])).2)))
 | [], i, h => by simp at h
 | x :: l, 0, _ => by simp [lv, lkv]
 | x :: l, i + 1, h => by
  have e : lv N (x :: l) = (lkv N x).toList ++ lv N l := by simp [lv]
  have hl : (lkv N x).toList.length = 3 := by simp [lkv]
  have := lv_get N l i (by simpa using h)
  have e1 : ∀ j, ((lkv N x).toList ++ lv N l)[(i + 1) * 3 + j]? = (lv N l)[i * 3 + j]? := fun j => by
   rw [List.getElem?_append_right (by rw [hl]; omega), hl, show (i + 1) * 3 + j - 3 = i * 3 + j from by omega]
  have e0 := e1 0
  simp only [Nat.add_zero] at e0
  rw [e, e0, e1 1, e1 2]
  simpa using this
theorem owned_links {w : World} {B N : Nat} {v : Value} {l : List LK} (h : w.ownsRow B 40 3 v l.length (lv N l)) : ∃ p c, v = .slice p l.length c ∧ l.length ≤ c ∧ c ≤ maxLen ∧ (p = none → l.length = 0 ∧ c = 0) ∧ KRow w p N l := by
 have hcl := fun g hg => h.cells (g := g) hg
 rcases h.2 with ⟨rfl, h0⟩ | ⟨g, cap, cur, rfl, _, _, hn, hm, _, _⟩
 ·exact ⟨none, 0, by rw [h0], by omega, by decide, fun _ => ⟨h0, rfl⟩, fun hne => absurd (List.length_eq_zero_iff.1 h0) hne⟩
 ·refine ⟨some ⟨g, 0, none⟩, cap, rfl, hn, hm, (fun h => by cases h), fun hne => ⟨g, rfl, fun i hi => ?_⟩⟩
  obtain ⟨c0, c1, c2⟩ := lv_get N l i hi
  have k0 := hcl g rfl (i * 3) _ c0
  have k1 := hcl g rfl (i * 3 + 1) _ c1
  have k2 := hcl g rfl (i * 3 + 2) _ c2
  rw [Addr.add_lit, Nat.zero_add] at k0 k1 k2
  exact ⟨k0, k1, k2⟩
def Ord (N : Nat) : Nat → List LK → Prop
 | _, [] => True
 | d, x :: ls => x.1 ≤ N ∧ d ≤ N - x.1 ∧ x.2.length ≤ x.1 ∧ Ord N (N - x.1 + x.2.length) ls
theorem Ord.mono {N : Nat} : ∀ {l : List LK} {d d' : Nat}, Ord N d l → d' ≤ d → Ord N d' l
 | [], _, _, _, _ => trivial
 | _ :: _, _, _, h, hd => ⟨h.1, Nat.le_trans hd h.2.1, h.2.2.1, h.2.2.2⟩
theorem ord_lefts : ∀ (ss : List SG) (N d : Nat), d + (flatS ss).length = N → Ord N d (leftsS ss 0)
 | [], _, _, _ => trivial
 | (false, t) :: ss, N, d, h => by
  rw [lefts_lit]
  rw [flat_cons, List.length_append] at h
  exact (ord_lefts ss N (d + t.length) (by omega)).mono (by omega)
 | (true, t) :: ss, N, d, h => by
  rw [lefts_val]
  rw [flat_cons, List.length_append] at h
  have e : N - ((t ++ flatS ss).length + 0) = d := by rw [List.length_append]; omega
  refine ⟨by simp only [List.length_append]; omega, by simp only [e]; omega, by simp only [List.length_append]; omega, ?_⟩
  simp only [e]
  exact ord_lefts ss N (d + t.length) (by omega)
theorem find_ord (low : List UInt8 → List UInt8) (b : List UInt8) (l : List LK) (h : findP low b = some l) : Ord b.length 0 l ∧ l.length ≤ 60 ∧ b.length ≤ 4000 := by
 unfold findP at h
 split at h
 ·cases h
 ·rename_i h4
  obtain ⟨ss, h1, h2, _⟩ := find_seg low b.length [] b l (Nat.le_refl _) h
  rw [List.nil_append] at h2
  refine ⟨by rw [h2]; exact ord_lefts ss b.length 0 (by rw [← h1]; simp), ?_, by omega⟩
  have : ∀ (n : Nat) (acc : List LK) (s : List UInt8) (L : List LK), findF low n acc s = some L → acc.length ≤ 60 → L.length ≤ 60 := by
   intro n
   induction n with
   | zero => intro acc s L h ha; simp only [findF, Option.some.injEq] at h; rw [← h]; exact ha
   | succ n ih =>
    intro acc s L h ha
    rw [findF] at h
    split at h
    ·simp only [Option.some.injEq] at h; rw [← h]; exact ha
    ·split at h
     ·cases h
     ·rename_i h60
      exact ih _ _ _ h (by omega)
  exact this _ _ _ _ h (by simp)
end Go.Proofs.YtbbfcbodhmeanaaGreatDoor



namespace Go.Proofs.YtbbfcbodhmeanaaGreatDoor
open Go.RowKit
def TxRow (w : World) (p : Option Addr) (ts : List ByteArray) : Prop := ts ≠ [] → ∃ b o, p = some ⟨b, o, none⟩ ∧ ∀ i, i < ts.length → w.cell? ⟨b, o + i, none⟩ = some (.string (ts.getD i ⟨#[]⟩))
theorem TxRow.below {w w' : World} {p : Option Addr} {ts : List ByteArray} (h : TxRow w p ts) (hb : Below w.heap.size w w') : TxRow w' p ts := by
 intro hne
 obtain ⟨b, o, rfl, hc⟩ := h hne
 refine ⟨b, o, rfl, fun i hi => ?_⟩
 have := hc i hi
 rw [hb.cell (p := ⟨b, o + i, none⟩) (World.block_lt_of_cell? w _ this)]
 exact this
end Go.Proofs.YtbbfcbodhmeanaaGreatDoor



namespace Go.Proofs.YtbbfcbodhmeanaaGreatDoor
end Go.Proofs.YtbbfcbodhmeanaaGreatDoor



namespace Go.Proofs.YtbbfcbodhmeanaaGreatDoor
open Go.RowKit
theorem append_bytes {w : World} {ops : Array Oper} {rest : List Oper} {o : Oper} {a : Act} {Q : Exit → Act → World → Prop} (hgd : o.guard = none) (s x : Operand)
  (ho : o.op = .call { callee := .builtin .append, args := #[s, x], argTypes := #[22, 22] })
  (base : Nat) (v : Value) (O : List UInt8) (hs : a.eval s = v) (hown : w.ownsRow base 5 1 v O.length (bv O))
  (q : Option Addr) (m c : Nat) (l : List UInt8) (em : m = l.length) (hx : a.eval x = .slice q m c) (hr : BRow w q l) (hq : q = none → m = 0 ∧ c = 0)
  (h63 : O.length + m ≤ 100000000) (hbase : base ≤ w.heap.size)
  (h : ∀ v' w' OP, Hid (OP = O ++ l) → w'.ownsRow base 5 1 v' OP.length (bv OP) → w.grownBy w' v.ownBlock → wpList Tryz.prog ops Q rest (a.put o.dst v') w') : wpList Tryz.prog ops Q (o :: rest) a w := by
 obtain ⟨i0, hi, hz0, hz1, hz2⟩ := info_parts info_u8
 subst em
 cases q with
 | none =>
  obtain ⟨h0, rfl⟩ := hq rfl
  have hl : l = [] := List.length_eq_zero_iff.1 h0
  subst hl
  refine wpList_append_own_none hgd s x 22 ho base 5 i0 1 Tryz.underlying22 hi v O.length (bv O) hs hown hx ?_
  refine h v w O (by unfold Hid; simp) hown (World.grownBy.refl _ _)
 | some ad =>
  refine wpList_append_own _ hgd s x 22 ho base 5 i0 (.int .u8 0) 1 1 Tryz.underlying22 hi hz0 hz1 hz2 rfl (by decide) v O.length (bv O) hs hown ad l.length c (bv l) hx (by rw [bv_length]; omega) ?_ ?_ (by unfold maxLen; omega) (by omega) hbase (fun v' w' h1 h2 _ => h v' w' (O ++ l) rfl (by rw [bv_append, List.length_append]; exact h1) h2)
  ·intro j u hj
   have hjl : j < l.length := by
    have := (List.getElem?_eq_some_iff.1 hj).1
    rwa [bv_length] at this
   obtain ⟨b, o', e, hc⟩ := hr (fun e => by rw [e] at hjl; simp at hjl)
   obtain rfl := Option.some.inj e
   rw [Addr.add_lit, hc j hjl]
   simp only [bv, List.getElem?_map, List.getElem?_eq_getElem hjl, Option.map_some, Option.some.injEq] at hj
   rw [← hj]
   simp [List.getD_eq_getElem?_getD, List.getElem?_eq_getElem hjl]
  ·intro u hu
   simp only [bv, List.mem_map] at hu
   obtain ⟨c, _, rfl⟩ := hu
   rfl
theorem BRow.part {w : World} {q : Option Addr} {l : List UInt8} (h : BRow w q l) (bq oq : Nat) (hq : q = some ⟨bq, oq, none⟩) (d m : Nat) : BRow w (some ⟨bq, oq + d, none⟩) ((l.drop d).take m) := by
 intro hne
 refine ⟨bq, oq + d, rfl, fun i hi => ?_⟩
 have hlen : i < m ∧ d + i < l.length := by
  rw [List.length_take, List.length_drop] at hi
  omega
 obtain ⟨b, o, e, hc⟩ := h (fun e => by rw [e] at hlen; simp at hlen)
 rw [hq] at e
 obtain ⟨rfl, rfl⟩ : bq = b ∧ oq = o := by injection e with e; injection e with h1 h2; exact ⟨h1, h2⟩
 have := hc (d + i) hlen.2
 rw [Nat.add_assoc, this]
 congr 3
 rw [List.getD_eq_getElem?_getD, List.getD_eq_getElem?_getD, List.getElem?_take_of_lt hlen.1, List.getElem?_drop]
structure FillSt (w : World) (N : Nat) (b : List UInt8) (l : List LK) (ts : List (List UInt8)) (gk : Nat) (wr : World) (v : Value) (i d : Nat) (O : List UInt8) : Prop where
 few : l.length < i + gk
 il : i ≤ l.length
 dn : d ≤ N
 dc : i < l.length → d < N
 ol : O.length ≤ 4000
 ord : Ord N d (l.drop i)
 bel : Below w.heap.size w wr
 own : wr.ownsRow w.heap.size 5 1 v O.length (bv O)
 eq : fillP l ts b = O ++ fillP (l.drop i) (ts.drop i) (b.drop d)
end Go.Proofs.YtbbfcbodhmeanaaGreatDoor



namespace Go.Proofs.YtbbfcbodhmeanaaGreatDoor
open Go.RowKit
set_option maxHeartbeats 1000000 in
theorem bfrag_any (s : ByteArray) (hs : s.size ≤ maxLen) (w : World) :
  Calls Tryz.prog 80 #[.string s] w fun e w' => e = .returned (.string ⟨(noFr s.data.toList).toArray⟩) ∧ Below w.heap.size w w' := by
 unfold noFr
 cases h : cutB 35 s.data.toList with
 | none =>
  have C : Hid (Calls Tryz.prog 89 #[.string s, .string ⟨#[35]⟩] w fun e w' => e = .returned (.tuple #[.string s, .string ⟨#[]⟩, .bool false]) ∧ Below w.heap.size w w') := cut_none 35 s w h
  clear h
  go_enter Tryz.func80, Tryz.ntmps80
  go_wp2_with fail
  refine C.out.mono ?_
  rintro e w1 ⟨rfl, hb⟩
  clear C
  go_wp2_with fail
  go_ret
  exact ⟨rfl, hb⟩
 | some x =>
  obtain ⟨a, r, rfl, -⟩ := cut_parts h
  have C : Hid (Calls Tryz.prog 89 #[.string s, .string ⟨#[35]⟩] w fun e w' => e = .returned (.tuple #[.string a, .string r, .bool true]) ∧ Below w.heap.size w w') := cut_someW 35 s a r w (by unfold maxLen at hs; omega) h
  clear h
  go_enter Tryz.func80, Tryz.ntmps80
  go_wp2_with fail
  refine C.out.mono ?_
  rintro e w1 ⟨rfl, hb⟩
  clear C
  go_wp2_with fail
  go_ret
  exact ⟨rfl, hb⟩
theorem set_same {W : World} {r i : Nat} {c : Array Value} {t : TypeId} (h : W.heap[r]? = some (.cells c t)) (v : Value) : (W.setCell ⟨r, i, none⟩ v).heap[r]? = some (.cells (c.setIfInBounds i v) t) := heap_setCell_same W r i c t v h
abbrev fill8 (W : World) (r o : Nat) (v0 v1 v2 v3 v4 v5 v6 v7 : Value) : World := (((((((W.setCell ⟨r, o, none⟩ v0).setCell ⟨r, o + 1, none⟩ v1).setCell ⟨r, o + 2, none⟩ v2).setCell ⟨r, o + 3, none⟩ v3).setCell ⟨r, o + 4, none⟩ v4).setCell ⟨r, o + 5, none⟩ v5).setCell ⟨r, o + 6, none⟩ v6).setCell ⟨r, o + 7, none⟩ v7
theorem fill8_heap {W : World} {r o : Nat} {c : Array Value} {t : TypeId} (h : W.heap[r]? = some (.cells c t)) (v0 v1 v2 v3 v4 v5 v6 v7 : Value) :
  (fill8 W r o v0 v1 v2 v3 v4 v5 v6 v7).heap[r]? = some (.cells ((((((((c.setIfInBounds o v0).setIfInBounds (o + 1) v1).setIfInBounds (o + 2) v2).setIfInBounds (o + 3) v3).setIfInBounds (o + 4) v4).setIfInBounds (o + 5) v5).setIfInBounds (o + 6) v6).setIfInBounds (o + 7) v7) t) :=
 set_same (set_same (set_same (set_same (set_same (set_same (set_same (set_same h v0) v1) v2) v3) v4) v5) v6) v7
theorem fill_lo {W : World} {r : Nat} {t : TypeId} {c0 c1 c2 c3 c4 c5 c6 c7 c8 c9 c10 c11 c12 c13 c14 c15 : Value} (h : W.heap[r]? = some (.cells #[c0, c1, c2, c3, c4, c5, c6, c7, c8, c9, c10, c11, c12, c13, c14, c15] t)) (v0 v1 v2 v3 v4 v5 v6 v7 : Value) :
  (fill8 W r 0 v0 v1 v2 v3 v4 v5 v6 v7).heap[r]? = some (.cells #[v0, v1, v2, v3, v4, v5, v6, v7, c8, c9, c10, c11, c12, c13, c14, c15] t) := (fill8_heap h v0 v1 v2 v3 v4 v5 v6 v7).trans (by simp)
theorem fill_hi {W : World} {r : Nat} {t : TypeId} {c0 c1 c2 c3 c4 c5 c6 c7 c8 c9 c10 c11 c12 c13 c14 c15 : Value} (h : W.heap[r]? = some (.cells #[c0, c1, c2, c3, c4, c5, c6, c7, c8, c9, c10, c11, c12, c13, c14, c15] t)) (v0 v1 v2 v3 v4 v5 v6 v7 : Value) :
  (fill8 W r 8 v0 v1 v2 v3 v4 v5 v6 v7).heap[r]? = some (.cells #[c0, c1, c2, c3, c4, c5, c6, c7, v0, v1, v2, v3, v4, v5, v6, v7] t) := (fill8_heap h v0 v1 v2 v3 v4 v5 v6 v7).trans (by simp)
theorem fill8_below {w W : World} (h : Below w.heap.size w W) {r : Nat} (hr : w.heap.size ≤ r) (o : Nat) (v0 v1 v2 v3 v4 v5 v6 v7 : Value) : Below w.heap.size w (fill8 W r o v0 v1 v2 v3 v4 v5 v6 v7) :=
 (((((((h.setCell (p := ⟨r, o, none⟩) hr v0).setCell (p := ⟨r, o + 1, none⟩) hr v1).setCell (p := ⟨r, o + 2, none⟩) hr v2).setCell (p := ⟨r, o + 3, none⟩) hr v3).setCell (p := ⟨r, o + 4, none⟩) hr v4).setCell (p := ⟨r, o + 5, none⟩) hr v5).setCell (p := ⟨r, o + 6, none⟩) hr v6).setCell (p := ⟨r, o + 7, none⟩) hr v7
theorem blk_c {W : World} {k : Nat} {c : Array Value} {t : TypeId} (h : W.heap[k]? = some (.cells c t)) (i : Nat) : W.cell? ⟨k, i, none⟩ = c[i]? := by
 simp [World.cell?, h]
theorem blk_f {W : World} {k : Nat} {c : Array Value} {t : TypeId} (h : W.heap[k]? = some (.cells c t)) (i : Nat) : W.frozen? ⟨k, i, none⟩ = false := by
 simp [World.frozen?, h]
theorem blk_on {W W' : World} {k : Nat} {o : Obj} (h : W.heap[k]? = some o) (hb : Below W.heap.size W W') : W'.heap[k]? = some o := by
 rw [hb.block _ (Array.getElem?_eq_some_iff.1 h).1]; exact h
theorem blk_new (W : World) (o : Obj) : (W.alloc o).heap[W.heap.size]? = some o := by
 show (W.heap.push _)[W.heap.size]? = _
 simp
set_option maxHeartbeats 8000000 in
set_option maxRecDepth 100000 in
theorem bled_walk (w : World) (a b bs bh bp bq bf us uh up uq uf xs xh xp xq xf S : ByteArray) (bhh bhq bhf uhh uhq uhf xhh xhq xhf : Bool) (e1 e2 e3 e4 : Nat)
  (CP : Hid (∀ W, Calls Tryz.prog 50 #[.string a] W fun e w' => e = .returned (.tuple #[.agg #[.string bs, .bool bhh, .string bh, .string bp, .bool bhq, .string bq, .bool bhf, .string bf], .int .i64 (e1 : Int)]) ∧ Below W.heap.size W w'))
  (CQ : Hid (∀ W, Calls Tryz.prog 50 #[.string b] W fun e w' => e = .returned (.tuple #[.agg #[.string us, .bool uhh, .string uh, .string up, .bool uhq, .string uq, .bool uhf, .string uf], .int .i64 (e2 : Int)]) ∧ Below W.heap.size W w'))
  (CL : Hid (∀ W, Below w.heap.size w W → Calls Tryz.prog 51 #[.agg #[.string bs, .bool bhh, .string bh, .string bp, .bool bhq, .string bq, .bool bhf, .string bf], .agg #[.string us, .bool uhh, .string uh, .string up, .bool uhq, .string uq, .bool uhf, .string uf]] W fun e w' => e = .returned (.tuple #[.agg #[.string xs, .bool xhh, .string xh, .string xp, .bool xhq, .string xq, .bool xhf, .string xf], .int .i64 (e3 : Int)]) ∧ Below W.heap.size W w'))
  (CR : Hid (∀ W, Calls Tryz.prog 52 #[.agg #[.string xs, .bool xhh, .string xh, .string xp, .bool xhq, .string xq, .bool xhf, .string xf]] W fun e w' => e = .returned (.tuple #[.string S, .int .i64 (e4 : Int)]) ∧ Below W.heap.size W w')) :
  Calls Tryz.prog 12 #[.string a, .string b] w fun e w' => e = .returned (.string (if e1 ≠ 0 then ⟨#[]⟩ else if e2 ≠ 0 then ⟨#[]⟩ else if e3 ≠ 0 then ⟨#[]⟩ else S)) ∧ Below w.heap.size w w' := by
 have hix0 : ∀ W, (Instr.index 87 (.agg #[.string a, .string b]) (.int .i64 0)).run Tryz.prog W = .ok (.string a) W := fun W => by kernel_rfl
 have hix1 : ∀ W, (Instr.index 87 (.agg #[.string a, .string b]) (.int .i64 1)).run Tryz.prog W = .ok (.string b) W := fun W => by kernel_rfl
 obtain ⟨R, hR⟩ : ∃ R, (if e1 ≠ 0 then ⟨#[]⟩ else if e2 ≠ 0 then ⟨#[]⟩ else if e3 ≠ 0 then ⟨#[]⟩ else S) = R := ⟨_, rfl⟩
 rw [hR]
 have HR : Hid ((if e1 ≠ 0 then ⟨#[]⟩ else if e2 ≠ 0 then ⟨#[]⟩ else if e3 ≠ 0 then ⟨#[]⟩ else S) = R) := hR
 clear hR
 go_enter Tryz.func12, Tryz.ntmps12
 go_wp2_with fail
 refine wp_loop_rounds 3 ?_
 rw [rounds_succ]
 go_wp2_with fail
 refine (CP.out _).mono ?_
 rintro e W1 ⟨rfl, hb1⟩
 clear CP
 have hk1 : W1.heap[w.heap.size]? = some (.cells #[.string ⟨#[]⟩, .bool false, .string ⟨#[]⟩, .string ⟨#[]⟩, .bool false, .string ⟨#[]⟩, .bool false, .string ⟨#[]⟩, .string ⟨#[]⟩, .bool false, .string ⟨#[]⟩, .string ⟨#[]⟩, .bool false, .string ⟨#[]⟩, .bool false, .string ⟨#[]⟩] 86) := blk_on (blk_new w _) hb1
 have hbe1 : Below w.heap.size w W1 := ((Below.refl _ w).alloc (Nat.le_refl _) _).trans (hb1.mono (by simp))
 clear hb1
 have hf1 := blk_f hk1
 have z0 : W1.cell? ⟨w.heap.size, 0, none⟩ = some (.string ⟨#[]⟩) := (blk_c hk1 0).trans rfl
 have z1 : W1.cell? ⟨w.heap.size, 1, none⟩ = some (.bool false) := (blk_c hk1 1).trans rfl
 have z2 : W1.cell? ⟨w.heap.size, 2, none⟩ = some (.string ⟨#[]⟩) := (blk_c hk1 2).trans rfl
 have z3 : W1.cell? ⟨w.heap.size, 3, none⟩ = some (.string ⟨#[]⟩) := (blk_c hk1 3).trans rfl
 have z4 : W1.cell? ⟨w.heap.size, 4, none⟩ = some (.bool false) := (blk_c hk1 4).trans rfl
 have z5 : W1.cell? ⟨w.heap.size, 5, none⟩ = some (.string ⟨#[]⟩) := (blk_c hk1 5).trans rfl
 have z6 : W1.cell? ⟨w.heap.size, 6, none⟩ = some (.bool false) := (blk_c hk1 6).trans rfl
 have z7 : W1.cell? ⟨w.heap.size, 7, none⟩ = some (.string ⟨#[]⟩) := (blk_c hk1 7).trans rfl
 by_cases h1 : e1 = 0
 ·subst h1
  have HR1 : Hid ((if e2 ≠ 0 then ⟨#[]⟩ else if e3 ≠ 0 then ⟨#[]⟩ else S) = R) := by unfold Hid; have h := HR.out; rw [if_neg (show ¬ (0 : Nat) ≠ 0 by simp)] at h; exact h
  clear HR
  go_wp2_with fail
  rw [rounds_succ]
  go_wp2_with fail
  have hk2 := fill_lo hk1 (.string bs) (.bool bhh) (.string bh) (.string bp) (.bool bhq) (.string bq) (.bool bhf) (.string bf)
  have hbe2 := fill8_below hbe1 (Nat.le_refl _) 0 (.string bs) (.bool bhh) (.string bh) (.string bp) (.bool bhq) (.string bq) (.bool bhf) (.string bf)
  obtain ⟨V2, hV2⟩ : ∃ W, W = (((((((W1.setCell ⟨w.heap.size, 0, none⟩ (.string bs)).setCell ⟨w.heap.size, 1, none⟩ (.bool bhh)).setCell ⟨w.heap.size, 2, none⟩ (.string bh)).setCell ⟨w.heap.size, 3, none⟩ (.string bp)).setCell ⟨w.heap.size, 4, none⟩ (.bool bhq)).setCell ⟨w.heap.size, 5, none⟩ (.string bq)).setCell ⟨w.heap.size, 6, none⟩ (.bool bhf)).setCell ⟨w.heap.size, 7, none⟩ (.string bf) := ⟨_, rfl⟩
  have hV2' : fill8 W1 w.heap.size 0 (.string bs) (.bool bhh) (.string bh) (.string bp) (.bool bhq) (.string bq) (.bool bhf) (.string bf) = V2 := hV2.symm
  rw [hV2'] at hk2 hbe2
  rw [← hV2]
  clear hV2 hV2'
  refine (CQ.out _).mono ?_
  rintro e W2 ⟨rfl, hb2⟩
  clear CQ
  have hk3 := blk_on hk2 hb2
  have hbe3 : Below w.heap.size w W2 := hbe2.trans (hb2.mono hbe2.size)
  clear hb2 hk2 hbe2 hk1 hbe1 hf1 z0 z1 z2 z3 z4 z5 z6 z7
  have hf1 := blk_f hk3
  have z8 : W2.cell? ⟨w.heap.size, 8, none⟩ = some (.string ⟨#[]⟩) := (blk_c hk3 8).trans rfl
  have z9 : W2.cell? ⟨w.heap.size, 9, none⟩ = some (.bool false) := (blk_c hk3 9).trans rfl
  have z10 : W2.cell? ⟨w.heap.size, 10, none⟩ = some (.string ⟨#[]⟩) := (blk_c hk3 10).trans rfl
  have z11 : W2.cell? ⟨w.heap.size, 11, none⟩ = some (.string ⟨#[]⟩) := (blk_c hk3 11).trans rfl
  have z12 : W2.cell? ⟨w.heap.size, 12, none⟩ = some (.bool false) := (blk_c hk3 12).trans rfl
  have z13 : W2.cell? ⟨w.heap.size, 13, none⟩ = some (.string ⟨#[]⟩) := (blk_c hk3 13).trans rfl
  have z14 : W2.cell? ⟨w.heap.size, 14, none⟩ = some (.bool false) := (blk_c hk3 14).trans rfl
  have z15 : W2.cell? ⟨w.heap.size, 15, none⟩ = some (.string ⟨#[]⟩) := (blk_c hk3 15).trans rfl
  by_cases h2 : e2 = 0
  ·subst h2
   have HR2 : Hid ((if e3 ≠ 0 then ⟨#[]⟩ else S) = R) := by unfold Hid; have h := HR1.out; rw [if_neg (show ¬ (0 : Nat) ≠ 0 by simp)] at h; exact h
   clear HR1
   go_wp2_with fail
   rw [rounds_succ]
   have hk4 := fill_hi hk3 (.string us) (.bool uhh) (.string uh) (.string up) (.bool uhq) (.string uq) (.bool uhf) (.string uf)
   have hbe4 := fill8_below hbe3 (Nat.le_refl _) 8 (.string us) (.bool uhh) (.string uh) (.string up) (.bool uhq) (.string uq) (.bool uhf) (.string uf)
   obtain ⟨W3, hW3⟩ : ∃ W, W = (((((((W2.setCell ⟨w.heap.size, 8, none⟩ (.string us)).setCell ⟨w.heap.size, 9, none⟩ (.bool uhh)).setCell ⟨w.heap.size, 10, none⟩ (.string uh)).setCell ⟨w.heap.size, 11, none⟩ (.string up)).setCell ⟨w.heap.size, 12, none⟩ (.bool uhq)).setCell ⟨w.heap.size, 13, none⟩ (.string uq)).setCell ⟨w.heap.size, 14, none⟩ (.bool uhf)).setCell ⟨w.heap.size, 15, none⟩ (.string uf) := ⟨_, rfl⟩
   have hW3' : fill8 W2 w.heap.size 8 (.string us) (.bool uhh) (.string uh) (.string up) (.bool uhq) (.string uq) (.bool uhf) (.string uf) = W3 := hW3.symm
   rw [hW3'] at hk4 hbe4
   rw [← hW3]
   clear hW3'
   clear hW3 hk3 hbe3 hf1 z8 z9 z10 z11 z12 z13 z14 z15
   have hc := blk_c hk4
   have hf := blk_f hk4
   have k0 : W3.cell? ⟨w.heap.size, 0, none⟩ = some (.string bs) := hc 0
   have k1 : W3.cell? ⟨w.heap.size, 1, none⟩ = some (.bool bhh) := hc 1
   have k2 : W3.cell? ⟨w.heap.size, 2, none⟩ = some (.string bh) := hc 2
   have k3 : W3.cell? ⟨w.heap.size, 3, none⟩ = some (.string bp) := hc 3
   have k4 : W3.cell? ⟨w.heap.size, 4, none⟩ = some (.bool bhq) := hc 4
   have k5 : W3.cell? ⟨w.heap.size, 5, none⟩ = some (.string bq) := hc 5
   have k6 : W3.cell? ⟨w.heap.size, 6, none⟩ = some (.bool bhf) := hc 6
   have k7 : W3.cell? ⟨w.heap.size, 7, none⟩ = some (.string bf) := hc 7
   have k8 : W3.cell? ⟨w.heap.size, 8, none⟩ = some (.string us) := hc 8
   have k9 : W3.cell? ⟨w.heap.size, 9, none⟩ = some (.bool uhh) := hc 9
   have k10 : W3.cell? ⟨w.heap.size, 10, none⟩ = some (.string uh) := hc 10
   have k11 : W3.cell? ⟨w.heap.size, 11, none⟩ = some (.string up) := hc 11
   have k12 : W3.cell? ⟨w.heap.size, 12, none⟩ = some (.bool uhq) := hc 12
   have k13 : W3.cell? ⟨w.heap.size, 13, none⟩ = some (.string uq) := hc 13
   have k14 : W3.cell? ⟨w.heap.size, 14, none⟩ = some (.bool uhf) := hc 14
   have k15 : W3.cell? ⟨w.heap.size, 15, none⟩ = some (.string uf) := hc 15
   clear hk4 hc
   go_wp2_with fail
   refine (CL.out _ hbe4).mono ?_
   rintro e W4 ⟨rfl, hb4⟩
   clear CL
   have hbe5 : Below w.heap.size w W4 := hbe4.trans (hb4.mono hbe4.size)
   clear hb4 hbe4 k0 k1 k2 k3 k4 k5 k6 k7 k8 k9 k10 k11 k12 k13 k14 k15 hf
   by_cases h3 : e3 = 0
   ·subst h3
    have HR3 : Hid (R = S) := by unfold Hid; have h := HR2.out; rw [if_neg (show ¬ (0 : Nat) ≠ 0 by simp)] at h; exact h.symm
    clear HR2
    go_wp2_with fail
    refine (CR.out _).mono ?_
    rintro e W5 ⟨rfl, hb5⟩
    clear CR
    have hbe6 : Below w.heap.size w W5 := (hbe5.alloc hbe5.size _).trans (hb5.mono (by have := hbe5.size; simp; omega))
    clear hb5 hbe5
    go_wp2_with fail
    go_ret
    exact ⟨by rw [HR3.out]; rfl, hbe6⟩
   ·have HN : Hid (R = ⟨#[]⟩) := by unfold Hid; rw [← HR2.out, if_pos h3]
    clear HR2
    have h3z : ((e3 : Int) == 0) = false := by rw [beq_eq_false_iff_ne]; omega
    go_wp2_with fail
    go_ret
    exact ⟨by rw [HN.out]; rfl, hbe5.alloc hbe5.size _⟩
  ·have HN : Hid (R = ⟨#[]⟩) := by unfold Hid; rw [← HR1.out, if_pos h2]
   clear HR1
   have h2z : ((e2 : Int) == 0) = false := by rw [beq_eq_false_iff_ne]; omega
   go_wp2_with fail
   go_ret
   exact ⟨by rw [HN.out]; rfl, fill8_below hbe3 (Nat.le_refl _) 8 _ _ _ _ _ _ _ _⟩
 ·have HN : Hid (R = ⟨#[]⟩) := by unfold Hid; rw [← HR.out, if_pos h1]
  clear HR
  have h1z : ((e1 : Int) == 0) = false := by rw [beq_eq_false_iff_ne]; omega
  go_wp2_with fail
  go_ret
  exact ⟨by rw [HN.out]; rfl, fill8_below hbe1 (Nat.le_refl _) 0 _ _ _ _ _ _ _ _⟩
end Go.Proofs.YtbbfcbodhmeanaaGreatDoor


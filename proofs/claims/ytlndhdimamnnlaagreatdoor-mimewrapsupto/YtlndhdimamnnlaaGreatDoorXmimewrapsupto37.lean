/- mime.read: as the plain function says; nothing that was there is changed but the count. Conditions: the bytes, the count, the tables lie there. -/
import Derived.Test.YtlndhdimamnnlaaGreatDoorXmimewrapsupto34
import Derived.Test.YtlndhdimamnnlaaGreatDoorXmimewrapsupto35
import Derived.Test.YtlndhdimamnnlaaGreatDoorXmimewrapsupto36
import Derived.Test.YtlndhdimamnnlaaGreatDoorXmimewrapsupto10
namespace Go.Proofs.YtlndhdimamnnlaaGreatDoor
open Go.RowKit

theorem rPost_no {f : Nat} {w w' : World} {g k e : Nat} {p : PT} (h : Ticks w g (k : Int) w') (he : e ≠ 0) (s0 s1 s2 s3 : ByteArray) (hw : Int) (a1 : Option Addr) (n1 c1 : Nat) (a2 : Option Addr) (n2 c2 : Nat) :
    RPost f w g (e, p, k) (.returned (.tuple #[.agg #[.string s0, .string s1, .string s2, .string s3, .int .i64 hw, .slice a1 n1 c1, .slice a2 n2 c2], .int .i64 (e : Int)])) w' :=
  ⟨h, fun h0 => absurd h0 he, fun _ => ⟨s0, s1, s2, s3, hw, a1, n1, c1, a2, n2, c2, rfl⟩⟩
theorem Ticks.set7 {w w' : World} {g : Nat} {m : Int} (h : Ticks w g m w') (r : Nat) (hr : w.heap.size ≤ r) (i : Nat) (v : Value) : Ticks w g m (w'.setCell ⟨r, i, none⟩ v) := Below.setCell h hr v

set_option maxHeartbeats 4000000 in
set_option maxRecDepth 100000 in
theorem mread_many (p : Option Addr) (n c : Nat) (d g k : Nat) (w : World) (hC : CountAt w g (k : Int)) (hk : k ≤ 12) (hbad : 12 < k + 1 ∨ 3 < d) (f : Nat) (pt : PT) :
    Calls Tryz.prog 29 #[.slice p n c, .int .i64 (d : Int), .pointer (some ⟨g, 0, none⟩)] w fun e w' => RPost f w g (2, pt, k + 1) e w' := by
  have hc0 := hC.cell
  have hf0 := hC.frozen
  have hgw := hC.lt
  have HC1 : Hid (CountAt (w.setCell ⟨g, 0, none⟩ (.int .i64 ((k : Int) + 1))) g ((k : Int) + 1)) := hC.set _
  have hc1 := HC1.out.cell
  have hT : Ticks w g ((k + 1 : Nat) : Int) ((w.setCell ⟨g, 0, none⟩ (.int .i64 ((k : Int) + 1))).alloc (.cells #[.string ⟨#[]⟩, .string ⟨#[]⟩, .string ⟨#[]⟩, .string ⟨#[]⟩, .int .i64 0, .slice none 0 0, .slice none 0 0] 25)) := by
    have e : ((k + 1 : Nat) : Int) = (k : Int) + 1 := by omega
    rw [e]
    exact (Below.refl _ _).alloc (by rw [set_size]; exact Nat.le_refl _) _
  have HT : Hid (Ticks w g ((k + 1 : Nat) : Int) ((w.setCell ⟨g, 0, none⟩ (.int .i64 ((k : Int) + 1))).alloc (.cells #[.string ⟨#[]⟩, .string ⟨#[]⟩, .string ⟨#[]⟩, .string ⟨#[]⟩, .int .i64 0, .slice none 0 0, .slice none 0 0] 25))) := hT
  clear hT hC
  by_cases h12 : 12 < k + 1
  · have h12' : (12 : Int) < (k : Int) + 1 := by omega
    go_enter Tryz.func29, Tryz.ntmps29
    go_wp2_with fail
    refine bodyPost_ret (v := .tuple #[.agg #[.string ⟨#[]⟩, .string ⟨#[]⟩, .string ⟨#[]⟩, .string ⟨#[]⟩, .int .i64 0, .slice none 0 0, .slice none 0 0], .int .i64 2]) ?_ rfl (rPost_no HT.out (by decide) _ _ _ _ _ _ _ _ _ _ _)
    rw [results_cell_tmp rfl]
    go_simp
  · have h12' : ¬ (12 : Int) < (k : Int) + 1 := by omega
    have h3 : (3 : Int) < (d : Int) := by omega
    go_enter Tryz.func29, Tryz.ntmps29
    go_wp2_with fail
    refine bodyPost_ret (v := .tuple #[.agg #[.string ⟨#[]⟩, .string ⟨#[]⟩, .string ⟨#[]⟩, .string ⟨#[]⟩, .int .i64 0, .slice none 0 0, .slice none 0 0], .int .i64 2]) ?_ rfl (rPost_no HT.out (by decide) _ _ _ _ _ _ _ _ _ _ _)
    rw [results_cell_tmp rfl]
    go_simp

/-- The tables that are read. -/
def Env (w0 : World) : Prop := ∀ w', Below w0.heap.size w0 w' → HowTab w' ∧ FoldTabs w' ∧ Lib.Utf8Tabs 6 7 w'

theorem getE_getN (nm : ByteArray) : ∀ l : List FV, (getE (fun x => eqF x.data.toList nm.data.toList) l).data.toList = getN nm.data.toList (l.map fl)
  | [] => rfl
  | f :: l => by
    have ih := getE_getN nm l
    unfold getE getN at ih ⊢
    rw [List.map_cons, List.find?_cons, List.find?_cons]
    show (match (match eqF f.1.data.toList nm.data.toList with | true => some f | false => l.find? _) with | none => _ | some f => f.2).data.toList = match (match eqF f.1.data.toList nm.data.toList with | true => some (fl f) | false => (l.map fl).find? _) with | none => _ | some f => f.2
    cases eqF f.1.data.toList nm.data.toList
    · exact ih
    · rfl
/-- header.Get of fields that lie there. -/
theorem get_any (w0 : World) (hE : Env w0) (nm : ByteArray) (hnm : nm.size ≤ 1000) (p : Option Addr) (n c : Nat) (l : List FV) (en : n = l.length) (w : World) (hb : Below w0.heap.size w0 w) (hn : n ≤ maxLen) (hl : FLen l) (hr : FRow w p l) :
    Calls Tryz.prog 65 #[.slice p n c, .string nm] w fun e w' => e = .returned (.string (ba (getN nm.data.toList (l.map fl)))) ∧ Below w.heap.size w w' := by
  refine (hget_any (fun x => eqF x.data.toList nm.data.toList) nm p n c l en w hn (fun f hf w' hb' => ?_) hr).mono ?_
  · have hw' : Below w0.heap.size w0 w' := hb.trans (hb'.mono hb.size)
    exact efold_any f.1 nm w' (hl f hf).1 (by unfold maxLen; omega) (hE w' hw').2.1 (hE w' hw').2.2
  · rintro e w' ⟨rfl, h⟩
    refine ⟨?_, h⟩
    congr 2
    rw [← getE_getN, ba_self]
end Go.Proofs.YtlndhdimamnnlaaGreatDoor

/- What mime.read needs besides its calls: the block of the result, a slice's end. No function of the program. -/
namespace Go.Proofs.YtlndhdimamnnlaaGreatDoor
open Go.RowKit

theorem m_kept {W W' : World} {k : Nat} {o : Obj} (h : W.heap[k]? = some o) (hb : Below W.heap.size W W') : W'.heap[k]? = some o := by
  rw [hb.block _ (Array.getElem?_eq_some_iff.1 h).1]; exact h
theorem m_cell {W : World} {k : Nat} {c : Array Value} {t : TypeId} (h : W.heap[k]? = some (.cells c t)) (i : Nat) : W.cell? ⟨k, i, none⟩ = c[i]? := by
  simp [World.cell?, h]
theorem m_frozen {W : World} {k : Nat} {c : Array Value} {t : TypeId} (h : W.heap[k]? = some (.cells c t)) (i : Nat) : W.frozen? ⟨k, i, none⟩ = false := by
  simp [World.frozen?, h]
theorem m_new (W : World) (o : Obj) : (W.alloc o).heap[W.heap.size]? = some o := by
  show (W.heap.push _)[W.heap.size]? = _
  simp
theorem m_cells {W : World} {k : Nat} {t : TypeId} {v0 v1 v2 v3 v4 v5 v6 : Value} (h : W.heap[k]? = some (.cells #[v0, v1, v2, v3, v4, v5, v6] t)) :
    W.cell? ⟨k, 0, none⟩ = some v0 ∧ W.cell? ⟨k, 1, none⟩ = some v1 ∧ W.cell? ⟨k, 2, none⟩ = some v2 ∧ W.cell? ⟨k, 3, none⟩ = some v3 ∧ W.cell? ⟨k, 4, none⟩ = some v4 ∧ W.cell? ⟨k, 5, none⟩ = some v5 ∧ W.cell? ⟨k, 6, none⟩ = some v6 ∧ ∀ i, W.frozen? ⟨k, i, none⟩ = false :=
  ⟨m_cell h 0, m_cell h 1, m_cell h 2, m_cell h 3, m_cell h 4, m_cell h 5, m_cell h 6, m_frozen h⟩
theorem m_set {W : World} {k : Nat} {t : TypeId} {c : Array Value} (h : W.heap[k]? = some (.cells c t)) (i : Nat) (v : Value) : (W.setCell ⟨k, i, none⟩ v).heap[k]? = some (.cells (c.setIfInBounds i v) t) := heap_setCell_same W k i c t v h
theorem m_other {W : World} {k r : Nat} {o : Obj} (h : W.heap[k]? = some o) (hne : k ≠ r) (i : Nat) (v : Value) : (W.setCell ⟨r, i, none⟩ v).heap[k]? = some o := by
  rw [Below.heap_setCell _ _ _ _ hne]; exact h

abbrev Z7 : Array Value := #[.string ⟨#[]⟩, .string ⟨#[]⟩, .string ⟨#[]⟩, .string ⟨#[]⟩, .int .i64 0, .slice none 0 0, .slice none 0 0]
/-- The count is told, the result's block is new. -/
def In7 (w : World) (g : Nat) (m : Int) (W : World) : Prop := Ticks w g m W ∧ W.heap[w.heap.size]? = some (.cells Z7 25)
theorem In7.below {w W W' : World} {g : Nat} {m : Int} (h : In7 w g m W) (hb : Below W.heap.size W W') : In7 w g m W' := ⟨h.1.then hb, m_kept h.2 hb⟩
theorem In7.drew {w W : World} {g : Nat} {m : Int} (h : In7 w g m W) : In7 w g m W.drew := ⟨h.1.then ((Below.refl _ _).drew), h.2⟩
theorem in7_new (w : World) (g : Nat) (m : Int) : In7 w g m ((w.setCell ⟨g, 0, none⟩ (.int .i64 m)).alloc (.cells Z7 25)) := by
  refine ⟨(Below.refl _ _).alloc (by rw [set_size]; exact Nat.le_refl _) _, ?_⟩
  have := m_new (w.setCell ⟨g, 0, none⟩ (.int .i64 m)) (.cells Z7 25)
  rw [set_size] at this
  exact this

/-- b[k:]. -/
theorem slice_end (p : Option Addr) (n c k : Nat) (L : List UInt8) (en : n = L.length) (hk : k ≤ n) (hc : n ≤ c) (hcm : c ≤ maxLen) (hp : p = none → n = 0 ∧ c = 0) :
    ∃ q d, (∀ W, (Instr.slice 22 (.slice p n c) (some (.int .i64 (k : Int))) none none).run Tryz.prog W = .ok (.slice q (n - k) d) W) ∧ n - k ≤ d ∧ d ≤ maxLen ∧ (q = none → n - k = 0 ∧ d = 0) ∧ ∀ W, BRow W p L → BRow W q (L.drop k) := by
  refine ⟨if c = k then p else p.map (·.add (k * 1)), c - k, fun W => ?_, by omega, by omega, ?_, fun W hr => ?_⟩
  · rw [run_slice_l W 22 p n c (by kernel_rfl) .i64 (k : Int) (by omega) (by omega)]
    go_simp
  · intro h
    have : p = none := by
      split at h
      · exact h
      · simpa using h
    obtain ⟨h1, h2⟩ := hp this
    omega
  · intro hne
    have hl : k < L.length := by
      apply Classical.byContradiction
      intro h
      exact hne (List.drop_eq_nil_of_le (by omega))
    obtain ⟨b, o, rfl, hcell⟩ := hr (fun e => by rw [e] at hl; simp at hl)
    rw [if_neg (by omega)]
    have := BRow.drop hcell k hne
    by_cases hk0 : k = 0
    · subst hk0
      simpa [Addr.add] using this
    · simpa [Addr.add, hk0] using this

theorem getN_len {fs : List Fld} (h : checkF fs = 0) (nm : List UInt8) : (getN nm fs).length ≤ 900 := by
  unfold getN
  cases hf : fs.find? (fun f => eqF f.1 nm) with
  | none => simp
  | some f =>
    have hm := List.mem_of_find?_eq_some hf
    unfold checkF at h
    split at h
    · cases h
    · split at h
      · rename_i ha
        have := List.all_eq_true.1 ha f hm
        unfold okF at this
        rw [Bool.and_eq_true] at this
        exact (value_facts this.2).1
      · cases h
theorem trimBy_len (p : UInt8 → Bool) (l : List UInt8) : (trimBy p l).length ≤ l.length := by
  unfold trimBy dropEnd
  have h1 := (List.dropWhile_sublist (l := (l.reverse.dropWhile p).reverse) p).length_le
  have h2 := (List.dropWhile_sublist (l := l.reverse) p).length_le
  rw [List.length_reverse] at h1 h2
  omega
theorem paramsF_main (s : List UInt8) : (paramsF s).1.length ≤ s.length := by
  unfold paramsF
  split
  · unfold outP
    split
    · simp
    · show (small8 _).length ≤ _
      rw [small8_length]
      have h1 := trimBy_len isSp (cutP 59 s).1
      have h2 := (cutP_length 59 s).1
      omega
  · simp
theorem bareI_len (l : List UInt8) : (bareI l).length ≤ l.length := by
  unfold bareI
  split
  · rw [List.length_dropLast, List.length_drop]; omega
  · exact Nat.le_refl _
theorem kindOf_len {fs : List Fld} (h : checkF fs = 0) : (kindOf fs).length ≤ 900 := by
  unfold kindOf
  split
  · decide
  · exact getN_len h _
theorem getN_fl (nm : List UInt8) (fs : List FV) (h : FLen fs) : (getN nm (fs.map fl)).length ≤ maxLen := by
  unfold getN
  cases hf : (fs.map fl).find? (fun f => eqF f.1 nm) with
  | none => simp
  | some f =>
    have hm := List.mem_of_find?_eq_some hf
    obtain ⟨x, hx, rfl⟩ := List.mem_map.1 hm
    have := (h x hx).2
    rw [Lib.size_eq] at this
    exact this
theorem rPost_ok {f : Nat} {w w' : World} {g k : Nat} {r : PT} (h : Ticks w g (k : Int) w') (pb : Option Addr) (cb : Nat) (pk : Option Addr) (ck : Nat) (hf : PFar w' (fun b => w.heap.size ≤ b ∧ b < w'.heap.size) f r pb cb pk ck) :
    RPost f w g (0, r, k) (.returned (.tuple #[.agg #[.string r.ty, .string r.cs, .string r.id, .string r.loc, .int .i64 r.how, .slice pb r.body.length cb, .slice pk r.kids.length ck], .int .i64 0])) w' :=
  ⟨h, fun _ => ⟨pb, cb, pk, ck, rfl, hf⟩, fun h => absurd rfl h⟩
theorem decP_how (said b : List UInt8) : (decP said b).1 ≤ 2 := by
  unfold decP
  split
  · exact Nat.zero_le _
  · split <;> exact Nat.zero_le _
  · show 1 ≤ 2; omega
  · show 2 ≤ 2; omega
/-- Seven cells are written. -/
abbrev fill7 (W : World) (r : Nat) (v0 v1 v2 v3 v4 v5 v6 : Value) : World := ((((((W.setCell ⟨r, 0, none⟩ v0).setCell ⟨r, 1, none⟩ v1).setCell ⟨r, 2, none⟩ v2).setCell ⟨r, 3, none⟩ v3).setCell ⟨r, 4, none⟩ v4).setCell ⟨r, 5, none⟩ v5).setCell ⟨r, 6, none⟩ v6
theorem fill7_ticks {w W : World} {g : Nat} {m : Int} (h : Ticks w g m W) {r : Nat} (hr : w.heap.size ≤ r) (v0 v1 v2 v3 v4 v5 v6 : Value) : Ticks w g m (fill7 W r v0 v1 v2 v3 v4 v5 v6) :=
  (((((((h.set7 r hr 0 v0).set7 r hr 1 v1).set7 r hr 2 v2).set7 r hr 3 v3).set7 r hr 4 v4).set7 r hr 5 v5).set7 r hr 6 v6)
theorem fill7_block (W : World) (r : Nat) (v0 v1 v2 v3 v4 v5 v6 : Value) (b : Nat) (hb : b ≠ r) : (fill7 W r v0 v1 v2 v3 v4 v5 v6).heap[b]? = W.heap[b]? := by
  unfold fill7
  rw [Below.heap_setCell _ _ _ _ hb, Below.heap_setCell _ _ _ _ hb, Below.heap_setCell _ _ _ _ hb, Below.heap_setCell _ _ _ _ hb, Below.heap_setCell _ _ _ _ hb, Below.heap_setCell _ _ _ _ hb, Below.heap_setCell _ _ _ _ hb]
theorem set_sz (W : World) (a : Addr) (v : Value) : (W.setCell a v).heap.size = W.heap.size := by simp [World.setCell]
theorem fill7_size (W : World) (r : Nat) (v0 v1 v2 v3 v4 v5 v6 : Value) : (fill7 W r v0 v1 v2 v3 v4 v5 v6).heap.size = W.heap.size := by
  unfold fill7
  rw [set_sz, set_sz, set_sz, set_sz, set_sz, set_sz, set_sz]

theorem readP_many (f : Nat) (L : List UInt8) (k bd : Nat) (FS PS : List Fld) (KD M : List UInt8) (h12 : ¬ 12 < k + 1) (h1 : parseF L = (FS, bd, 0)) (h2 : kindOf FS = KD) (h3 : paramsF KD = (M, PS, 0)) (h4 : manyS M = true) :
    readP (f + 1) L k = if (partsR f (L.drop bd) (getN nmBound PS) (k + 1)).1 ≠ 0 then ((partsR f (L.drop bd) (getN nmBound PS) (k + 1)).1, pt0, (partsR f (L.drop bd) (getN nmBound PS) (k + 1)).2.2) else (0, { partOf M FS with kids := (partsR f (L.drop bd) (getN nmBound PS) (k + 1)).2.1 }, (partsR f (L.drop bd) (getN nmBound PS) (k + 1)).2.2) := by
  rw [readP, if_neg h12, h1, if_neg (by simp)]
  simp only
  rw [h2, h3, if_neg (by simp)]
  simp only
  rw [if_pos h4]
  unfold partsR
  by_cases h5 : (splitS (L.drop bd) (getN nmBound PS)).2 ≠ 0
  · rw [if_pos h5, if_pos h5, if_pos h5]
  · rw [if_neg h5, if_neg h5]
theorem readP_one (f : Nat) (L : List UInt8) (k bd : Nat) (FS PS : List Fld) (KD M : List UInt8) (h12 : ¬ 12 < k + 1) (h1 : parseF L = (FS, bd, 0)) (h2 : kindOf FS = KD) (h3 : paramsF KD = (M, PS, 0)) (h4 : manyS M = false) :
    readP (f + 1) L k = if (decP (getN nmHow FS) (L.drop bd)).2.2 ≠ 0 then ((decP (getN nmHow FS) (L.drop bd)).2.2, pt0, k + 1) else (0, { partOf M FS with cs := ba (getN nmChar PS), how := ((decP (getN nmHow FS) (L.drop bd)).1 : Nat), body := (decP (getN nmHow FS) (L.drop bd)).2.1 }, k + 1) := by
  rw [readP, if_neg h12, h1, if_neg (by simp)]
  simp only
  rw [h2, h3, if_neg (by simp)]
  simp only
  rw [if_neg (by rw [h4]; simp)]
end Go.Proofs.YtlndhdimamnnlaaGreatDoor

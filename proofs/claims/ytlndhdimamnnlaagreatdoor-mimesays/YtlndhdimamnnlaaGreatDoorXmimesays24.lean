
import Derived.Test.YtlndhdimamnnlaaGreatDoorXmimesays23
import Derived.Deep.DeepCutAuto
import Derived.Lib.Fold
namespace Go.Proofs.YtlndhdimamnnlaaGreatDoor
open Go.RowKit
theorem m_kept {W W' : World} {k : Nat} {o : Obj} (h : W.heap[k]? = some o) (hb : Below W.heap.size W W') : W'.heap[k]? = some o := by
 rw [hb.block _ (Array.getElem?_eq_some_iff.1 h).1]; exact h
theorem m_cell {W : World} {k : Nat} {c : Array Value} {t : TypeId} (h : W.heap[k]? = some (.cells c t)) (i : Nat) : W.cell? ⟨k, i, none⟩ = c[i]? := by
 simp [World.cell?, h]
theorem m_frozen {W : World} {k : Nat} {c : Array Value} {t : TypeId} (h : W.heap[k]? = some (.cells c t)) (i : Nat) : W.frozen? ⟨k, i, none⟩ = false := by
 simp [World.frozen?, h]
theorem m_new (W : World) (o : Obj) : (W.alloc o).heap[W.heap.size]? = some o := by
 show (W.heap.push _)[W.heap.size]? = _
 simp
theorem m_cells {W : World} {k : Nat} {t : TypeId} {v0 v1 v2 v3 v4 v5 v6 : Value} (h : W.heap[k]? = some (.cells #[v0, v1, v2, v3, v4, v5, v6] t)) :
  W.cell? ⟨k, 0, none⟩ = some v0 ∧ W.cell? ⟨k, 1, none⟩ = some v1 ∧ W.cell? ⟨k, 2, none⟩ = some v2 ∧ W.cell? ⟨k, 3, none⟩ = some v3 ∧ W.cell? ⟨k, 4, none⟩ = some v4 ∧ W.cell? ⟨k, 5, none⟩ = some v5 ∧ W.cell? ⟨k, 6, none⟩ = some v6 ∧ ∀ i, W.frozen? ⟨k, i, none⟩ = false :=
 ⟨m_cell h 0, m_cell h 1, m_cell h 2, m_cell h 3, m_cell h 4, m_cell h 5, m_cell h 6, m_frozen h⟩
theorem m_set {W : World} {k : Nat} {t : TypeId} {c : Array Value} (h : W.heap[k]? = some (.cells c t)) (i : Nat) (v : Value) : (W.setCell ⟨k, i, none⟩ v).heap[k]? = some (.cells (c.setIfInBounds i v) t) := heap_setCell_same W k i c t v h
theorem m_other {W : World} {k r : Nat} {o : Obj} (h : W.heap[k]? = some o) (hne : k ≠ r) (i : Nat) (v : Value) : (W.setCell ⟨r, i, none⟩ v).heap[k]? = some o := by
 rw [Below.heap_setCell _ _ _ _ hne]; exact h
abbrev Z7 : Array Value := #[.string ⟨#[]⟩, .string ⟨#[]⟩, .string ⟨#[]⟩, .string ⟨#[]⟩, .int .i64 0, .slice none 0 0, .slice none 0 0]
def In7 (w : World) (g : Nat) (m : Int) (W : World) : Prop := Ticks w g m W ∧ W.heap[w.heap.size]? = some (.cells Z7 25)
theorem In7.below {w W W' : World} {g : Nat} {m : Int} (h : In7 w g m W) (hb : Below W.heap.size W W') : In7 w g m W' := ⟨h.1.then hb, m_kept h.2 hb⟩
theorem In7.drew {w W : World} {g : Nat} {m : Int} (h : In7 w g m W) : In7 w g m W.drew := ⟨h.1.then ((Below.refl _ _).drew), h.2⟩
theorem in7_new (w : World) (g : Nat) (m : Int) : In7 w g m ((w.setCell ⟨g, 0, none⟩ (.int .i64 m)).alloc (.cells Z7 25)) := by
 refine ⟨(Below.refl _ _).alloc (by rw [set_size]; exact Nat.le_refl _) _, ?_⟩
 have := m_new (w.setCell ⟨g, 0, none⟩ (.int .i64 m)) (.cells Z7 25)
 rw [set_size] at this
 exact this
theorem slice_end (p : Option Addr) (n c k : Nat) (L : List UInt8) (en : n = L.length) (hk : k ≤ n) (hc : n ≤ c) (hcm : c ≤ maxLen) (hp : p = none → n = 0 ∧ c = 0) :
  ∃ q d, (∀ W, (Instr.slice 22 (.slice p n c) (some (.int .i64 (k : Int))) none none).run Tryz.prog W = .ok (.slice q (n - k) d) W) ∧ n - k ≤ d ∧ d ≤ maxLen ∧ (q = none → n - k = 0 ∧ d = 0) ∧ ∀ W, BRow W p L → BRow W q (L.drop k) := by
 refine ⟨if c = k then p else p.map (·.add (k * 1)), c - k, fun W => ?_, by omega, by omega, ?_, fun W hr => ?_⟩
 ·rw [run_slice_l W 22 p n c (by kernel_rfl) .i64 (k : Int) (by omega) (by omega)]
  go_simp
 ·intro h
  have : p = none := by
   split at h
   ·exact h
   ·simpa using h
  obtain ⟨h1, h2⟩ := hp this
  omega
 ·intro hne
  have hl : k < L.length := by
   apply Classical.byContradiction
   intro h
   exact hne (List.drop_eq_nil_of_le (by omega))
  obtain ⟨b, o, rfl, hcell⟩ := hr (fun e => by rw [e] at hl; simp at hl)
  rw [if_neg (by omega)]
  have := BRow.drop hcell k hne
  by_cases hk0 : k = 0
  ·subst hk0
   simpa [Addr.add] using this
  ·simpa [Addr.add, hk0] using this
theorem getN_len {fs : List Fld} (h : checkF fs = 0) (nm : List UInt8) : (getN nm fs).length ≤ 900 := by
 unfold getN
 cases hf : fs.find? (fun f => eqF f.1 nm) with
 | none => simp
 | some f =>
  have hm := List.mem_of_find?_eq_some hf
  unfold checkF at h
  split at h
  ·cases h
  ·split at h
   ·rename_i ha
    have := List.all_eq_true.1 ha f hm
    unfold okF at this
    rw [Bool.and_eq_true] at this
    exact (value_facts this.2).1
   ·cases h
theorem trimBy_len (p : UInt8 → Bool) (l : List UInt8) : (trimBy p l).length ≤ l.length := by
 unfold trimBy dropEnd
 have h1 := (List.dropWhile_sublist (l := (l.reverse.dropWhile p).reverse) p).length_le
 have h2 := (List.dropWhile_sublist (l := l.reverse) p).length_le
 rw [List.length_reverse] at h1 h2
 omega
theorem paramsF_main (s : List UInt8) : (paramsF s).1.length ≤ s.length := by
 unfold paramsF
 split
 ·unfold outP
  split
  ·simp
  ·show (small8 _).length ≤ _
   rw [small8_length]
   have h1 := trimBy_len isSp (cutP 59 s).1
   have h2 := (cutP_length 59 s).1
   omega
 ·simp
theorem bareI_len (l : List UInt8) : (bareI l).length ≤ l.length := by
 unfold bareI
 split
 ·rw [List.length_dropLast, List.length_drop]; omega
 ·exact Nat.le_refl _
theorem kindOf_len {fs : List Fld} (h : checkF fs = 0) : (kindOf fs).length ≤ 900 := by
 unfold kindOf
 split
 ·decide
 ·exact getN_len h _
theorem getN_fl (nm : List UInt8) (fs : List FV) (h : FLen fs) : (getN nm (fs.map fl)).length ≤ maxLen := by
 unfold getN
 cases hf : (fs.map fl).find? (fun f => eqF f.1 nm) with
 | none => simp
 | some f =>
  have hm := List.mem_of_find?_eq_some hf
  obtain ⟨x, hx, rfl⟩ := List.mem_map.1 hm
  have := (h x hx).2
  rw [Lib.size_eq] at this
  exact this
theorem rPost_ok {f : Nat} {w w' : World} {g k : Nat} {r : PT} (h : Ticks w g (k : Int) w') (pb : Option Addr) (cb : Nat) (pk : Option Addr) (ck : Nat) (hf : PFar w' (fun b => w.heap.size ≤ b ∧ b < w'.heap.size) f r pb cb pk ck) :
  RPost f w g (0, r, k) (.returned (.tuple #[.agg #[.string r.ty, .string r.cs, .string r.id, .string r.loc, .int .i64 r.how, .slice pb r.body.length cb, .slice pk r.kids.length ck], .int .i64 0])) w' :=
 ⟨h, fun _ => ⟨pb, cb, pk, ck, rfl, hf⟩, fun h => absurd rfl h⟩
theorem decP_how (said b : List UInt8) : (decP said b).1 ≤ 2 := by
 unfold decP
 split
 ·exact Nat.zero_le _
 ·split <;> exact Nat.zero_le _
 ·show 1 ≤ 2; omega
 ·show 2 ≤ 2; omega
abbrev fill7 (W : World) (r : Nat) (v0 v1 v2 v3 v4 v5 v6 : Value) : World := ((((((W.setCell ⟨r, 0, none⟩ v0).setCell ⟨r, 1, none⟩ v1).setCell ⟨r, 2, none⟩ v2).setCell ⟨r, 3, none⟩ v3).setCell ⟨r, 4, none⟩ v4).setCell ⟨r, 5, none⟩ v5).setCell ⟨r, 6, none⟩ v6
theorem fill7_ticks {w W : World} {g : Nat} {m : Int} (h : Ticks w g m W) {r : Nat} (hr : w.heap.size ≤ r) (v0 v1 v2 v3 v4 v5 v6 : Value) : Ticks w g m (fill7 W r v0 v1 v2 v3 v4 v5 v6) :=
 (((((((h.set7 r hr 0 v0).set7 r hr 1 v1).set7 r hr 2 v2).set7 r hr 3 v3).set7 r hr 4 v4).set7 r hr 5 v5).set7 r hr 6 v6)
theorem fill7_block (W : World) (r : Nat) (v0 v1 v2 v3 v4 v5 v6 : Value) (b : Nat) (hb : b ≠ r) : (fill7 W r v0 v1 v2 v3 v4 v5 v6).heap[b]? = W.heap[b]? := by
 unfold fill7
 rw [Below.heap_setCell _ _ _ _ hb, Below.heap_setCell _ _ _ _ hb, Below.heap_setCell _ _ _ _ hb, Below.heap_setCell _ _ _ _ hb, Below.heap_setCell _ _ _ _ hb, Below.heap_setCell _ _ _ _ hb, Below.heap_setCell _ _ _ _ hb]
theorem set_sz (W : World) (a : Addr) (v : Value) : (W.setCell a v).heap.size = W.heap.size := by simp [World.setCell]
theorem fill7_size (W : World) (r : Nat) (v0 v1 v2 v3 v4 v5 v6 : Value) : (fill7 W r v0 v1 v2 v3 v4 v5 v6).heap.size = W.heap.size := by
 unfold fill7
 rw [set_sz, set_sz, set_sz, set_sz, set_sz, set_sz, set_sz]
theorem readP_many (f : Nat) (L : List UInt8) (k bd : Nat) (FS PS : List Fld) (KD M : List UInt8) (h12 : ¬ 12 < k + 1) (h1 : parseF L = (FS, bd, 0)) (h2 : kindOf FS = KD) (h3 : paramsF KD = (M, PS, 0)) (h4 : manyS M = true) :
  readP (f + 1) L k = if (partsR f (L.drop bd) (getN nmBound PS) (k + 1)).1 ≠ 0 then ((partsR f (L.drop bd) (getN nmBound PS) (k + 1)).1, pt0, (partsR f (L.drop bd) (getN nmBound PS) (k + 1)).2.2) else (0, { partOf M FS with kids := (partsR f (L.drop bd) (getN nmBound PS) (k + 1)).2.1 }, (partsR f (L.drop bd) (getN nmBound PS) (k + 1)).2.2) := by
 rw [readP, if_neg h12, h1, if_neg (by simp)]
 simp only
 rw [h2, h3, if_neg (by simp)]
 simp only
 rw [if_pos h4]
 unfold partsR
 by_cases h5 : (splitS (L.drop bd) (getN nmBound PS)).2 ≠ 0
 ·rw [if_pos h5, if_pos h5, if_pos h5]
 ·rw [if_neg h5, if_neg h5]
theorem readP_one (f : Nat) (L : List UInt8) (k bd : Nat) (FS PS : List Fld) (KD M : List UInt8) (h12 : ¬ 12 < k + 1) (h1 : parseF L = (FS, bd, 0)) (h2 : kindOf FS = KD) (h3 : paramsF KD = (M, PS, 0)) (h4 : manyS M = false) :
  readP (f + 1) L k = if (decP (getN nmHow FS) (L.drop bd)).2.2 ≠ 0 then ((decP (getN nmHow FS) (L.drop bd)).2.2, pt0, k + 1) else (0, { partOf M FS with cs := ba (getN nmChar PS), how := ((decP (getN nmHow FS) (L.drop bd)).1 : Nat), body := (decP (getN nmHow FS) (L.drop bd)).2.1 }, k + 1) := by
 rw [readP, if_neg h12, h1, if_neg (by simp)]
 simp only
 rw [h2, h3, if_neg (by simp)]
 simp only
 rw [if_neg (by rw [h4]; simp)]
end Go.Proofs.YtlndhdimamnnlaaGreatDoor



namespace Go.Proofs.YtlndhdimamnnlaaGreatDoor
open Go.RowKit
theorem he_t (s : ByteArray) (h : s.data.toList = []) : s.toList.isEmpty = true := by
 rw [ByteArray.toList_eq, h]
 rfl
theorem he_f (s : ByteArray) (h : s.data.toList ≠ []) : s.toList.isEmpty = false := by
 rw [ByteArray.toList_eq]
 cases hs : s.data.toList with
 | nil => exact absurd hs h
 | cons a l => rfl
set_option maxHeartbeats 8000000 in
set_option maxRecDepth 100000 in
theorem head_walk (b o hn : Nat) (ty cs id loc B K1 KD HB T : ByteArray) (L2 L3 L4 : List FV) (E : Int) (w : World) (hn2 : hn ≤ 2) (hs0 : ty.size ≤ 1000) (hs1 : cs.size ≤ 1000) (hs2 : id.size ≤ 1000) (hs3 : B.size ≤ 1000) (hs4 : K1.size ≤ 3000) (hL2 : L2.length ≤ 2) (hL3 : L3.length ≤ 3)
  (HC : Hid (∀ w', Below w.heap.size w w' → w'.cell? ⟨b, o, none⟩ = some (.string ty) ∧ w'.cell? ⟨b, o + 1, none⟩ = some (.string cs) ∧ w'.cell? ⟨b, o + 2, none⟩ = some (.string id) ∧ w'.cell? ⟨b, o + 3, none⟩ = some (.string loc) ∧ w'.cell? ⟨b, o + 4, none⟩ = some (.int .i64 (hn : Int))))
  (HHt : Hid (∀ w', Below w.heap.size w w' → w'.cell? ⟨0, hn, none⟩ = some (.string HB)))
  (X1 : Hid ((cs.data.toList = [] ∧ ty = K1) ∨ (cs.data.toList ≠ [] ∧ K1 = ty ++ (⟨#[59, 32, 99, 104, 97, 114, 115, 101, 116, 61]⟩ ++ cs))))
  (X2 : Hid ((B.data.toList = [] ∧ K1 = KD) ∨ (B.data.toList ≠ [] ∧ KD = K1 ++ (⟨#[59, 32, 98, 111, 117, 110, 100, 97, 114, 121, 61, 34]⟩ ++ B ++ ⟨#[34]⟩))))
  (X3 : Hid ((id.data.toList = [] ∧ [(⟨#[67, 111, 110, 116, 101, 110, 116, 45, 84, 121, 112, 101]⟩, KD)] = L2) ∨ (id.data.toList ≠ [] ∧ L2 = [(⟨#[67, 111, 110, 116, 101, 110, 116, 45, 84, 121, 112, 101]⟩, KD)] ++ [(⟨#[67, 111, 110, 116, 101, 110, 116, 45, 73, 68]⟩, ⟨#[60]⟩ ++ id ++ ⟨#[62]⟩)])))
  (X4 : Hid ((loc.data.toList = [] ∧ L2 = L3) ∨ (loc.data.toList ≠ [] ∧ L3 = L2 ++ [(⟨#[67, 111, 110, 116, 101, 110, 116, 45, 76, 111, 99, 97, 116, 105, 111, 110]⟩, loc)])))
  (X5 : Hid ((B.data.toList ≠ [] ∧ L3 = L4) ∨ (B.data.toList = [] ∧ L4 = L3 ++ [(⟨#[67, 111, 110, 116, 101, 110, 116, 45, 84, 114, 97, 110, 115, 102, 101, 114, 45, 69, 110, 99, 111, 100, 105, 110, 103]⟩, HB)])))
  (CP : Hid (∀ w' (q : Option Addr) (c : Nat), Below w.heap.size w w' → w'.ownsRow w.heap.size 105 2 (.slice q L4.length c) L4.length (fv L4) → Calls Tryz.prog 103 #[.slice q L4.length c] w' fun e w'' => e = .returned (.tuple #[.string T, .int .i64 E]) ∧ Below w.heap.size w w'')) :
  Calls Tryz.prog 58 #[.pointer (some ⟨b, o, none⟩), .string B] w fun e w' => e = .returned (.string T) ∧ Below w.heap.size w w' := by
 obtain ⟨i0, hi, hz0, hz1, hz2⟩ := info_parts info_fieldH
 obtain ⟨y0, y1, y2, y3, y4⟩ := HC.out w (Below.refl _ _)
 go_enter Tryz.func58, Tryz.ntmps58
 go_upto_if 17 with fail
 go_cut [5] (fun s wx => s = .string K1 ∧ wx = w)
 case first =>
  rcases X1.out with ⟨x1, rfl⟩ | ⟨x1, rfl⟩
  ·have he := he_t _ x1
   rw [he]
   go_wp2_with fail
   go_meet
   exact ⟨rfl, rfl⟩
  ·have he := he_f _ x1
   rw [he]
   have hk1 : (ByteArray.mk #[59, 32, 99, 104, 97, 114, 115, 101, 116, 61]).size = 10 := rfl
   go_wp2_with fail
   go_meet
   exact ⟨rfl, rfl⟩
 case rest =>
 obtain ⟨rfl, rfl⟩ := hcut
 clear X1
 go_upto_if 26 with fail
 go_cut [5] (fun s wx => s = .string KD ∧ wx = wc)
 case first =>
  rcases X2.out with ⟨x1, rfl⟩ | ⟨x1, rfl⟩
  ·have he := he_t _ x1
   rw [he]
   go_wp2_with fail
   go_meet
   exact ⟨rfl, rfl⟩
  ·have he := he_f _ x1
   rw [he]
   have hk1 : (ByteArray.mk #[59, 32, 98, 111, 117, 110, 100, 97, 114, 121, 61, 34]).size = 12 := rfl
   have hk2 : (ByteArray.mk #[34]).size = 1 := rfl
   go_wp2_with fail
   go_meet
   exact ⟨rfl, rfl⟩
 case rest =>
 obtain ⟨rfl, rfl⟩ := hcut
 clear X2 y0 y1 y2 y3 y4
 obtain ⟨w0, hw0⟩ : ∃ x, x = wc := ⟨_, rfl⟩
 subst hw0
 have b1 : Below w0.heap.size w0 (w0.alloc (.cells #[.string ⟨#[67, 111, 110, 116, 101, 110, 116, 45, 84, 121, 112, 101]⟩, .string KD] 105)) := (Below.refl _ _).alloc (Nat.le_refl _) _
 have own1 : (w0.alloc (.cells #[.string ⟨#[67, 111, 110, 116, 101, 110, 116, 45, 84, 121, 112, 101]⟩, .string KD] 105)).ownsRow w0.heap.size 105 2 (.slice (some ⟨w0.heap.size, 0, none⟩) 1 1) 1 (fv [(⟨#[67, 111, 110, 116, 101, 110, 116, 45, 84, 121, 112, 101]⟩, KD)]) := World.ownsRow_lit w0 #[.string ⟨#[67, 111, 110, 116, 101, 110, 116, 45, 84, 121, 112, 101]⟩, .string KD] 1 (Nat.le_refl _) (by decide) rfl
 obtain ⟨x0, x1, x2, x3, x4⟩ := HC.out _ b1
 have xt := HHt.out _ b1
 go_upto_if 39 with fail
 obtain ⟨W1, hW1⟩ : ∃ W, W = w0.alloc (.cells #[.string ⟨#[67, 111, 110, 116, 101, 110, 116, 45, 84, 121, 112, 101]⟩, .string KD] 105) := ⟨_, rfl⟩
 rw [← hW1] at b1 own1 x0 x1 x2 x3 x4 xt
 rw [← hW1]
 clear hW1
 go_cut [6] (fun v wx => Below w0.heap.size w0 wx ∧ ∃ q c, v = .slice q L2.length c ∧ wx.ownsRow w0.heap.size 105 2 v L2.length (fv L2))
 case first =>
  rcases X3.out with ⟨z1, rfl⟩ | ⟨z1, rfl⟩
  ·have he := he_t _ z1
   rw [he]
   go_wp2_with fail
   go_meet
   exact ⟨b1, _, _, rfl, own1⟩
  ·have he := he_f _ z1
   rw [he]
   go_wp2_with (at_builtin; go_loud (refine wpList_append_own _ rfl (.tmp 40) (.tmp 48) 66 rfl w0.heap.size 105 i0 (.agg #[.string ⟨#[]⟩, .string ⟨#[]⟩]) 2 32 Tryz.underlying66 hi hz0 hz1 hz2 rfl (by decide) _ _ _ rfl (own1.alloc _) ⟨W1.heap.size, 0, none⟩ 1 1 [.string ⟨#[67, 111, 110, 116, 101, 110, 116, 45, 73, 68]⟩, .string (⟨#[60]⟩ ++ id ++ ⟨#[62]⟩)] rfl rfl (cell_pair _ _ _ _) ?c2_40 ?c3_40 ?c4_40 ?c5_40 ?_))
   case c2_40 => first | exact ⟨rfl, rfl⟩ | (intro u hu; simp at hu; rcases hu with rfl | rfl <;> rfl)
   case c3_40 => decide
   skip
   case c5_40 => have := b1.size; simp; omega
   intro v9 w9 own90 g9 _
   have b9 : Below w0.heap.size w0 w9 := (b1.alloc b1.size _).grown g9 (by have := b1.size; simp; omega) (fun j hj => (own1.lt j hj).1)
   have hlen : (([(⟨#[67, 111, 110, 116, 101, 110, 116, 45, 84, 121, 112, 101]⟩, KD)] : List FV) ++ [(⟨#[67, 111, 110, 116, 101, 110, 116, 45, 73, 68]⟩, ⟨#[60]⟩ ++ id ++ ⟨#[62]⟩)] : List FV).length = ([(⟨#[67, 111, 110, 116, 101, 110, 116, 45, 84, 121, 112, 101]⟩, KD)] : List FV).length + 1 := by simp
   have own9 : w9.ownsRow w0.heap.size 105 2 v9 (([(⟨#[67, 111, 110, 116, 101, 110, 116, 45, 84, 121, 112, 101]⟩, KD)] : List FV) ++ [(⟨#[67, 111, 110, 116, 101, 110, 116, 45, 73, 68]⟩, ⟨#[60]⟩ ++ id ++ ⟨#[62]⟩)] : List FV).length (fv (([(⟨#[67, 111, 110, 116, 101, 110, 116, 45, 84, 121, 112, 101]⟩, KD)] : List FV) ++ [(⟨#[67, 111, 110, 116, 101, 110, 116, 45, 73, 68]⟩, ⟨#[60]⟩ ++ id ++ ⟨#[62]⟩)])) := by rw [hlen, fv_snoc]; exact own90
   obtain ⟨q9, c9, rfl⟩ := owned_slice own9
   clear own90 g9
   go_wp2_with fail
   go_meet
   exact ⟨b9, _, _, rfl, own9⟩
 case rest =>
 obtain ⟨w2, hw2⟩ : ∃ x, x = wc := ⟨_, rfl⟩
 subst hw2
 obtain ⟨b2, q2, c2, rfl, own2⟩ := hcut
 clear x0 x1 x2 x3 x4 xt
 obtain ⟨x0, x1, x2, x3, x4⟩ := HC.out w2 b2
 have xt := HHt.out w2 b2
 clear X3 own1 b1
 go_upto_if 54 with fail
 go_cut [6] (fun v wx => Below w0.heap.size w0 wx ∧ ∃ q c, v = .slice q L3.length c ∧ wx.ownsRow w0.heap.size 105 2 v L3.length (fv L3))
 case first =>
  rcases X4.out with ⟨z1, rfl⟩ | ⟨z1, rfl⟩
  ·have he := he_t _ z1
   rw [he]
   go_wp2_with fail
   go_meet
   exact ⟨b2, _, _, rfl, own2⟩
  ·have he := he_f _ z1
   rw [he]
   go_wp2_with (at_builtin; go_loud (refine wpList_append_own _ rfl (.tmp 55) (.tmp 61) 66 rfl w0.heap.size 105 i0 (.agg #[.string ⟨#[]⟩, .string ⟨#[]⟩]) 2 32 Tryz.underlying66 hi hz0 hz1 hz2 rfl (by decide) _ _ _ rfl (own2.alloc _) ⟨w2.heap.size, 0, none⟩ 1 1 [.string ⟨#[67, 111, 110, 116, 101, 110, 116, 45, 76, 111, 99, 97, 116, 105, 111, 110]⟩, .string (loc)] rfl rfl (cell_pair _ _ _ _) ?c2_55 ?c3_55 ?c4_55 ?c5_55 ?_))
   case c2_55 => first | exact ⟨rfl, rfl⟩ | (intro u hu; simp at hu; rcases hu with rfl | rfl <;> rfl)
   case c3_55 => unfold maxLen; omega
   case c4_55 => omega
   case c5_55 => have := b2.size; simp; omega
   intro v9 w9 own90 g9 _
   have b9 : Below w0.heap.size w0 w9 := (b2.alloc b2.size _).grown g9 (by have := b2.size; simp; omega) (fun j hj => (own2.lt j hj).1)
   have hlen : (L2 ++ [(⟨#[67, 111, 110, 116, 101, 110, 116, 45, 76, 111, 99, 97, 116, 105, 111, 110]⟩, loc)] : List FV).length = L2.length + 1 := by simp
   have own9 : w9.ownsRow w0.heap.size 105 2 v9 (L2 ++ [(⟨#[67, 111, 110, 116, 101, 110, 116, 45, 76, 111, 99, 97, 116, 105, 111, 110]⟩, loc)] : List FV).length (fv (L2 ++ [(⟨#[67, 111, 110, 116, 101, 110, 116, 45, 76, 111, 99, 97, 116, 105, 111, 110]⟩, loc)])) := by rw [hlen, fv_snoc]; exact own90
   obtain ⟨q9, c9, rfl⟩ := owned_slice own9
   clear own90 g9
   go_wp2_with fail
   go_meet
   exact ⟨b9, _, _, rfl, own9⟩
 case rest =>
 obtain ⟨w3, hw3⟩ : ∃ x, x = wc := ⟨_, rfl⟩
 subst hw3
 obtain ⟨b3, q3, c3, rfl, own3⟩ := hcut
 clear x0 x1 x2 x3 x4 xt
 obtain ⟨x0, x1, x2, x3, x4⟩ := HC.out w3 b3
 have xt := HHt.out w3 b3
 clear X4 own2 b2
 go_upto_if 64 with fail
 go_cut [6] (fun v wx => Below w0.heap.size w0 wx ∧ ∃ q c, v = .slice q L4.length c ∧ wx.ownsRow w0.heap.size 105 2 v L4.length (fv L4))
 case first =>
  rcases X5.out with ⟨z1, rfl⟩ | ⟨z1, rfl⟩
  ·have he := he_f _ z1
   rw [he]
   go_wp2_with fail
   go_meet
   exact ⟨b3, _, _, rfl, own3⟩
  ·have he := he_t _ z1
   rw [he]
   go_wp2_with (at_builtin; go_loud (refine wpList_append_own _ rfl (.tmp 65) (.tmp 73) 66 rfl w0.heap.size 105 i0 (.agg #[.string ⟨#[]⟩, .string ⟨#[]⟩]) 2 32 Tryz.underlying66 hi hz0 hz1 hz2 rfl (by decide) _ _ _ rfl (own3.alloc _) ⟨w3.heap.size, 0, none⟩ 1 1 [.string ⟨#[67, 111, 110, 116, 101, 110, 116, 45, 84, 114, 97, 110, 115, 102, 101, 114, 45, 69, 110, 99, 111, 100, 105, 110, 103]⟩, .string (HB)] rfl rfl (cell_pair _ _ _ _) ?c2_65 ?c3_65 ?c4_65 ?c5_65 ?_))
   case c2_65 => first | exact ⟨rfl, rfl⟩ | (intro u hu; simp at hu; rcases hu with rfl | rfl <;> rfl)
   case c3_65 => unfold maxLen; omega
   case c4_65 => omega
   case c5_65 => have := b3.size; simp; omega
   intro v9 w9 own90 g9 _
   have b9 : Below w0.heap.size w0 w9 := (b3.alloc b3.size _).grown g9 (by have := b3.size; simp; omega) (fun j hj => (own3.lt j hj).1)
   have hlen : (L3 ++ [(⟨#[67, 111, 110, 116, 101, 110, 116, 45, 84, 114, 97, 110, 115, 102, 101, 114, 45, 69, 110, 99, 111, 100, 105, 110, 103]⟩, HB)] : List FV).length = L3.length + 1 := by simp
   have own9 : w9.ownsRow w0.heap.size 105 2 v9 (L3 ++ [(⟨#[67, 111, 110, 116, 101, 110, 116, 45, 84, 114, 97, 110, 115, 102, 101, 114, 45, 69, 110, 99, 111, 100, 105, 110, 103]⟩, HB)] : List FV).length (fv (L3 ++ [(⟨#[67, 111, 110, 116, 101, 110, 116, 45, 84, 114, 97, 110, 115, 102, 101, 114, 45, 69, 110, 99, 111, 100, 105, 110, 103]⟩, HB)])) := by rw [hlen, fv_snoc]; exact own90
   obtain ⟨q9, c9, rfl⟩ := owned_slice own9
   clear own90 g9
   go_wp2_with fail
   go_meet
   exact ⟨b9, _, _, rfl, own9⟩
 case rest =>
 obtain ⟨w4, hw4⟩ : ∃ x, x = wc := ⟨_, rfl⟩
 subst hw4
 obtain ⟨b4, q4, c4, rfl, own4⟩ := hcut
 clear x0 x1 x2 x3 x4 xt
 obtain ⟨x0, x1, x2, x3, x4⟩ := HC.out w4 b4
 have xt := HHt.out w4 b4
 clear X5 own3 b3
 go_wp2_with fail
 refine (CP.out _ _ _ b4 own4).mono ?_
 rintro e w9 ⟨rfl, hb9⟩
 go_wp2_with fail
 go_ret
 exact ⟨rfl, hb9⟩
end Go.Proofs.YtlndhdimamnnlaaGreatDoor



namespace Go.Proofs.YtlndhdimamnnlaaGreatDoor
structure Seg where
 n : List UInt8
 v : List UInt8
 q : Option Nat
def blanks (k : Nat) : List UInt8 := List.replicate k 32
def Seg.pre (g : Seg) : List UInt8 := match g.q with | none => [32] | some _ => []
def Seg.body (g : Seg) : List UInt8 := match g.q with | none => 32 :: (g.n ++ 61 :: 32 :: g.v) | some k => g.n ++ 32 :: 61 :: 34 :: (g.v ++ 34 :: blanks k)
def Seg.ok (g : Seg) : Prop := match g.q with | none => tokenS g.n = true ∧ tokenS g.v = true | some _ => tokenS g.n = true ∧ g.v.contains 34 = false
def Seg.text (g : Seg) : List UInt8 := g.pre ++ 59 :: g.body
def tx (l : List Seg) : List UInt8 := l.flatMap Seg.text
theorem cutB_off (d : UInt8) : ∀ l : List UInt8, (∀ c ∈ l, c ≠ d) → cutB d l = none
 | [], _ => rfl
 | c :: r, h => by rw [cutB, if_neg (h c (by simp)), cutB_off d r (fun x hx => h x (by simp [hx]))]; rfl
theorem tok_no {n : List UInt8} (h : tokenS n = true) (d : UInt8) (hd : specials.contains d = true ∨ d = 32) : ∀ c ∈ n, c ≠ d := by
 intro c hc e
 subst e
 have := (token_facts h).2.2 c hc
 rcases hd with hd | hd
 ·rw [this.2.2] at hd; cases hd
 ·subst hd; exact absurd this.1 (by decide)
theorem tok_sp {n : List UInt8} (h : tokenS n = true) : ∀ c ∈ n, isSp c = false := by
 intro c hc
 have := tok_no h 32 (.inr rfl) c hc
 simp [isSp, this]
theorem dropWhile_all (p : UInt8 → Bool) : ∀ l : List UInt8, (∀ c ∈ l, p c = true) → l.dropWhile p = []
 | [], _ => rfl
 | c :: l, h => by rw [List.dropWhile_cons, if_pos (h c (by simp)), dropWhile_all p l (fun x hx => h x (by simp [hx]))]
theorem dropEnd_all (p : UInt8 → Bool) (l : List UInt8) (h : ∀ c ∈ l, p c = true) : dropEnd p l = [] := by
 rw [dropEnd, dropWhile_all p _ (fun c hc => h c (by simpa using hc))]; rfl
end Go.Proofs.YtlndhdimamnnlaaGreatDoor



namespace Go.Proofs.YtlndhdimamnnlaaGreatDoor
theorem lower_num8 (c : UInt8) : (Lib.lowerB c).toNat = if 65 ≤ c.toNat ∧ c.toNat ≤ 90 then c.toNat + 32 else c.toNat := by
 have : ∀ n : Fin 256, (Lib.lowerB (UInt8.ofNat n.val)).toNat = if 65 ≤ n.val ∧ n.val ≤ 90 then n.val + 32 else n.val := by decide +kernel
 have h := this ⟨c.toNat, c.toNat_lt⟩
 rwa [show UInt8.ofNat c.toNat = c from UInt8.ofNat_toNat] at h
theorem ascii_low (c : UInt8) (h : c.toNat < 128) : (Lib.lowerB c).toNat < 128 := by
 rw [lower_num8]; split <;> omega
end Go.Proofs.YtlndhdimamnnlaaGreatDoor


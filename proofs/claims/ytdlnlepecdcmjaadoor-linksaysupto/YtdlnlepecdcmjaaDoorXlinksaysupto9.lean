/- link's reader, told by what is left of its page: pass, passEnd, link, beginsTag. -/
import Derived.Test.YtdlnlepecdcmjaaDoorXlinksaysupto6
import Derived.Test.YtdlnlepecdcmjaaDoorXlinksaysupto8
import Derived.Laws.ResultCell
namespace Go.Proofs.YtdlnlepecdcmjaaDoor
open Go.RowKit

def lba (l : List UInt8) : ByteArray := ⟨l.toArray⟩
theorem lba_data (l : List UInt8) : (lba l).data.toList = l := rfl
theorem lba_size (l : List UInt8) : (lba l).size = l.length := by rw [Lib.size_eq, lba_data]
theorem lba_inj {a b : ByteArray} (h : a.data.toList = b.data.toList) : a = b := ByteArray.ext (Array.toList_inj.1 h)
/-- Where the reader is, so much being left. -/
def pos (p : ByteArray) (s : List UInt8) : Nat := p.size - s.length
abbrev Suf (p : ByteArray) (s : List UInt8) : Prop := s <:+ p.data.toList
theorem Suf.len {p : ByteArray} {s : List UInt8} (h : Suf p s) : s.length ≤ p.size := by rw [Lib.size_eq]; exact h.length_le
theorem Suf.drop {p : ByteArray} {s : List UInt8} (h : Suf p s) : p.data.toList.drop (pos p s) = s := by
  unfold pos
  rw [Lib.size_eq]
  exact (List.suffix_iff_eq_drop.1 h).symm
theorem pos_le (p : ByteArray) (s : List UInt8) : pos p s ≤ p.size := by unfold pos; omega
theorem pos_plus {p : ByteArray} {s a r : List UInt8} (h : Suf p s) (e : a ++ r = s) : pos p r = pos p s + a.length := by
  have := h.len
  subst e
  unfold pos
  simp only [List.length_append] at this ⊢
  omega
theorem ext_of {p : ByteArray} {s a r : List UInt8} (h : Suf p s) (e : a ++ r = s) : p.extract (pos p s) (pos p r) = lba a := by
  have hd := h.drop
  have hp := pos_plus h e
  refine lba_inj ?_
  rw [hp, lba_data]
  have e1 : (p.extract (pos p s) (pos p s + a.length)).data.toList = ((p.data.toList.drop (pos p s)).take a.length) := by
    rw [Lib.extract_data, show pos p s + a.length - pos p s = a.length from by omega]
  rw [e1, hd, ← e, List.take_left]
theorem ext_end {p : ByteArray} {s : List UInt8} (h : Suf p s) : p.extract (pos p s) p.size = lba s := by
  have := ext_of h (List.append_nil s)
  have e : pos p ([] : List UInt8) = p.size := rfl
  rw [e] at this
  exact this
theorem Suf.dw {p : ByteArray} {s : List UInt8} (h : Suf p s) (q : UInt8 → Bool) : Suf p (s.dropWhile q) := (List.dropWhile_suffix q).trans h
theorem Suf.dr {p : ByteArray} {s : List UInt8} (h : Suf p s) (n : Nat) : Suf p (s.drop n) := (List.drop_suffix n s).trans h
theorem Suf.tl {p : ByteArray} {c : UInt8} {s : List UInt8} (h : Suf p (c :: s)) : Suf p s := (List.suffix_cons c s).trans h
theorem behind_suf (m s : List UInt8) : behindL m s <:+ s := by
  unfold behindL
  split
  · exact List.nil_suffix
  · exact List.drop_suffix _ _
/-- pass. -/
theorem pass_suf (F : Nat) (caps : Array Value) (q : UInt8 → Bool) (OK : World → Prop) (g : Nat) (p : ByteArray) (s : List UInt8) (hS : Suf p s) (w : World) (hr : RdAt w g p (pos p s)) (hOK : OK w) (HQ : AskIn F caps q g OK) (hp : p.size ≤ 4000) :
    Calls Tryd.prog 45 #[.pointer (some ⟨g, 0, none⟩), .func (Fn.func F) #[] caps] w fun e w' => e = .returned (.string (lba (s.takeWhile q))) ∧ Moves w g (pos p (s.dropWhile q)) w' := by
  have e := tw_dw q s
  refine pass_any F caps q OK g p (pos p s) (pos p (s.dropWhile q)) (lba (s.takeWhile q)) w hr hOK HQ hp ?_ (ext_of hS e) (pos_le _ _)
  rw [hS.drop]
  exact pos_plus hS e
/-- internal/bytealg.MaxLen holds a number; the tables of letters are there. -/
structure LTabs (w : World) : Prop where
  mx : ∃ m : Int, w.cell? ⟨0, 0, none⟩ = some (.int .i64 m)
  cv : Lib.CaseVar 3 Lib.caseA w
  u8 : Lib.Utf8Tabs 1 2 w
/-- .. in each world above this one. -/
def LEnv (w0 : World) : Prop := ∀ W, Below w0.heap.size w0 W → LTabs W
theorem behind_pos {p E : ByteArray} {s : List UInt8} (hS : Suf p s) (hi : ¬ Lib.index s E.data.toList < 0) : ((pos p s : Nat) : Int) + (Lib.index s E.data.toList + (E.size : Int)) = (pos p (behindL E.data.toList s) : Nat) := by
  have h1 := Lib.index_room s E.data.toList (by omega)
  have h2 := hS.len
  have h3 : behindL E.data.toList s = s.drop ((Lib.index s E.data.toList).toNat + E.data.toList.length) := by unfold behindL; rw [if_neg hi]
  unfold pos
  rw [h3, List.length_drop, Lib.size_eq E]
  omega
set_option maxHeartbeats 2000000 in
theorem passEnd_any (w0 : World) (HE : LEnv w0) (E : ByteArray) (hE : E.size ≤ 10) (g : Nat) (p : ByteArray) (s : List UInt8) (hS : Suf p s) (w : World) (hr : RdAt w g p (pos p s)) (hb : Below w0.heap.size w0 w) (hp : p.size ≤ 4000) :
    Calls Tryd.prog 28 #[.pointer (some ⟨g, 0, none⟩), .string E] w fun e w' => e = .returned (.tuple #[]) ∧ Moves w g (pos p (behindL E.data.toList s)) w' := by
  have h0 := hr.page
  have h1 := hr.at_
  have hf := hr.frozen 1
  have hx := ext_end hS
  have HR : Hid (RdAt w g p (pos p s)) := hr
  have hlen := hS.len
  have HC : Hid (QuietAt 21 #[.string (lba s), .string E] (.int .i64 (Lib.index s E.data.toList)) w) := fun n => by
    obtain ⟨m, hm⟩ := (HE w hb).mx
    exact Calls.quiet_of_same (Tryd.strings_Index (lba s) E m (w.drewN n) (by rw [lba_size]; omega) hm)
  have hk1 : ((pos p s : Nat) : Int) ≤ (p.size : Int) := by have := pos_le p s; omega
  have hk2 : pos p s ≤ p.size := pos_le p s
  have hroom := Lib.index_room s E.data.toList
  by_cases hi : Lib.index s E.data.toList < 0
  · have hn : behindL E.data.toList s = [] := by unfold behindL; rw [if_pos hi]
    have HP : Hid (pos p (behindL E.data.toList s) = p.size) := by unfold Hid; rw [hn]; rfl
    have hi' : ¬ 0 ≤ Lib.index s E.data.toList := by omega
    generalize Lib.index s E.data.toList = i at HC hi hi'
    generalize pos p (behindL E.data.toList s) = m at HP
    generalize pos p s = k at *
    clear hn hr hi hroom hS HE hb
    go_enter Tryd.func28, Tryd.ntmps28
    go_wp2_with fail
    go_quiet (first | (go_at_call 21; exact HC.out _) | fail)
    go_wp2_with fail
    go_end0
    rw [HP.out]
    exact ⟨rfl, ((Moves.still HR.out).then (below_many (Below.refl _ _) _)).trans Moves.of_set HR.out⟩
  · have HP : Hid (((pos p s : Nat) : Int) + (Lib.index s E.data.toList + (E.size : Int)) = (pos p (behindL E.data.toList s) : Nat)) := behind_pos hS hi
    have hi' : 0 ≤ Lib.index s E.data.toList := by omega
    have hroom' := hroom hi'
    have hw1 : IntKind.i64.wrap (Lib.index s E.data.toList + (E.size : Int)) = Lib.index s E.data.toList + (E.size : Int) := by rw [IntKind.wrap_i64]; omega
    have hw2 : IntKind.i64.wrap (((pos p s : Nat) : Int) + (Lib.index s E.data.toList + (E.size : Int))) = (pos p (behindL E.data.toList s) : Nat) := by rw [HP.out, IntKind.wrap_i64]; have := pos_le p (behindL E.data.toList s); omega
    generalize pos p (behindL E.data.toList s) = m at *
    generalize Lib.index s E.data.toList = i at *
    generalize pos p s = k at *
    clear hr hi hS HE hb hroom HP hroom'
    go_enter Tryd.func28, Tryd.ntmps28
    go_wp2_with fail
    go_quiet (first | (go_at_call 21; exact HC.out _) | fail)
    go_wp2_with fail
    refine bodyPost_ret (results_none rfl _ _ _) rfl ?_
    · exact ⟨rfl, ((Moves.still HR.out).then (below_many (Below.refl _ _) _)).trans Moves.of_set HR.out⟩
/-- A link, as it is told. -/
def lkC (p : ByteArray) (s r raw : List UInt8) : Array Value := #[.int .i64 (pos p s : Nat), .int .i64 (pos p r : Nat), .string (lba (unamp raw))]
theorem amp_room (s : ByteArray) (hs : s.size ≤ 4000) : s.size + Lib.countB s (lba ampL) * (lba [38]).size ≤ 140737488355328 := by
  have h1 : Lib.countB s (lba ampL) ≤ s.size + 1 := by
    unfold Lib.countB
    have := Lib.count_le s.data.toList (lba ampL).data.toList
    have := Lib.size_eq s
    omega
  have h2 : (lba [38]).size = 1 := rfl
  rw [h2]
  omega
theorem results_cell1 {fn : Func} {p : Tmp} {ty : TypeId} (h : fn.results = #[.cell p ty]) (tmps : Array Value) (P : Program) (w : World) :
    (results fn tmps).run P w =
      ((asAddr (tmps.getD p undef)).run P w).andThen fun a w₁ => (loadVar ty a).run P w₁ := by
  simp only [results, h]
  simp [Sem.run_bind, Result.andThen]
theorem results_tct {fn : Func} {u p v : Tmp} {ty : TypeId} (h : fn.results = #[.tmp u, .cell p ty, .tmp v]) (tmps : Array Value) (P : Program) (w : World) :
    (results fn tmps).run P w =
      ((asAddr (tmps.getD p undef)).run P w).andThen fun a w₁ => ((loadVar ty a).run P w₁).andThen fun y w₂ => .ok (.tuple #[tmps.getD u undef, y, tmps.getD v undef]) w₂ := by
  simp only [results, h]
  simp [Sem.run_bind, Result.andThen]
theorem lcells3 {W : World} {k : Nat} {t : TypeId} {v0 v1 v2 : Value} (h : W.heap[k]? = some (.cells #[v0, v1, v2] t)) :
    W.cell? ⟨k, 0, none⟩ = some v0 ∧ W.cell? ⟨k, 1, none⟩ = some v1 ∧ W.cell? ⟨k, 2, none⟩ = some v2 ∧ ∀ o, W.frozen? ⟨k, o, none⟩ = false :=
  ⟨by simp [World.cell?, h], by simp [World.cell?, h], by simp [World.cell?, h], fun o => by simp [World.frozen?, h]⟩
theorem lnew (W : World) (o : Obj) : (W.alloc o).heap[W.heap.size]? = some o := by
  show (W.heap.push _)[W.heap.size]? = _
  rw [Array.getElem?_push, if_pos rfl]
theorem lkept {W W' : World} {k : Nat} {o : Obj} (h : W.heap[k]? = some o) (hb : Below W.heap.size W W') : W'.heap[k]? = some o := by
  rw [hb.block _ (Array.getElem?_eq_some_iff.1 h).1]; exact h
theorem lltn {W : World} {k : Nat} {o : Obj} (h : W.heap[k]? = some o) : k < W.heap.size := (Array.getElem?_eq_some_iff.1 h).1
theorem Moves.kept {w w' : World} {g : Nat} {m : Int} (h : Moves w g m w') {k : Nat} {o : Obj} (hk : w.heap[k]? = some o) (hg : k ≠ g) : w'.heap[k]? = some o := by
  rw [h.block k (lltn hk) hg]; exact hk
theorem Moves.new {w w' : World} {g : Nat} {m : Int} (h : Moves w g m w') (k i : Nat) (hk : w.heap.size ≤ k) (v : Value) : Moves w g m (w'.setCell ⟨k, i, none⟩ v) := by
  have h1 : Below w.heap.size (w.setCell ⟨g, 1, none⟩ (.int .i64 m)) w' := h
  exact h1.setCell (p := ⟨k, i, none⟩) hk v
theorem Moves.alloc {w w' : World} {g : Nat} {m : Int} (h : Moves w g m w') (o : Obj) : Moves w g m (w'.alloc o) := h.then ((Below.refl _ _).alloc (Nat.le_refl _) _)
theorem Moves.drewN {w w' : World} {g : Nat} {m : Int} (h : Moves w g m w') (n : Nat) : Moves w g m (w'.drewN n) := h.then (below_many (Below.refl _ _) _)
set_option maxHeartbeats 4000000 in
theorem link_any (w0 : World) (HE : LEnv w0) (F : Nat) (caps : Array Value) (q : UInt8 → Bool) (OK : World → Prop) (hOKa : ∀ W v t, OK W → OK (W.alloc (.cells v t))) (g : Nat) (hg : w0.heap.size ≤ g) (p : ByteArray) (s : List UInt8) (hS : Suf p s) (w : World) (hr : RdAt w g p (pos p s)) (hb : Below w0.heap.size w0 w) (hOK : OK w) (HQ : AskIn F caps q g OK) (hp : p.size ≤ 4000) :
    Calls Tryd.prog 74 #[.pointer (some ⟨g, 0, none⟩), .func (Fn.func F) #[] caps] w fun e w' => e = .returned (.agg (lkC p s (s.dropWhile q) (s.takeWhile q))) ∧ Moves w g (pos p (s.dropWhile q)) w' := by
  have h1 := hr.at_
  have HR : Hid (RdAt w g p (pos p s)) := hr
  have hlt := hr.lt
  have hne : g ≠ w.heap.size := by omega
  have HP : Hid (∀ W, RdAt W g p (pos p s) → OK W → Calls Tryd.prog 45 #[.pointer (some ⟨g, 0, none⟩), .func (Fn.func F) #[] caps] W fun e w' => e = .returned (.string (lba (s.takeWhile q))) ∧ Moves W g (pos p (s.dropWhile q)) w') := fun W h1 h2 => pass_suf F caps q OK g p s hS W h1 h2 HQ hp
  have htl : (lba (s.takeWhile q)).size ≤ 4000 := by rw [lba_size]; have := (List.takeWhile_prefix (l := s) q).length_le; have := hS.len; omega
  have HA : Hid (∀ W, Below w0.heap.size w0 W → Calls Tryd.prog 82 #[.string (lba (s.takeWhile q)), .string ⟨#[38, 97, 109, 112, 59]⟩, .string ⟨#[38]⟩] W fun e w' => e = .returned (.string (lba (unamp (s.takeWhile q)))) ∧ Below W.heap.size W w') := fun W hW => by
    obtain ⟨m, hm⟩ := (HE W hW).mx
    exact Tryd.strings_ReplaceAll (lba (s.takeWhile q)) ⟨#[38, 97, 109, 112, 59]⟩ ⟨#[38]⟩ m W (by omega) hm (by decide) (amp_room _ htl)
  have HB : Hid (Below w0.heap.size w0 w) := hb
  have HO : Hid (OK (w.alloc (.cells #[.int .i64 0, .int .i64 0, .string ⟨#[]⟩] 33))) := hOKa _ _ _ hOK
  unfold lkC
  generalize s.takeWhile q = T at *
  generalize pos p (s.dropWhile q) = m at *
  generalize pos p s = k at *
  clear hr HE hb hOK hOKa HQ hS htl
  have hba : Below w.heap.size w (w.alloc (.cells #[.int .i64 0, .int .i64 0, .string ⟨#[]⟩] 33)) := (Below.refl _ _).alloc (Nat.le_refl _) _
  have hnew := lnew w (.cells #[.int .i64 0, .int .i64 0, .string ⟨#[]⟩] 33)
  go_enter Tryd.func74, Tryd.ntmps74
  go_wp2_with fail
  refine (HP.out _ (HR.out.below hba) HO.out).mono ?_
  rintro e w1 ⟨rfl, hm1⟩
  have hB1 := hm1.base (HB.out.trans (hba.mono HB.out.size)) hg
  have hk1 := hm1.kept hnew (Ne.symm hne)
  have HM : Hid (Moves w g m w1) := ((Moves.still HR.out).then hba).trans hm1 HR.out
  clear HP HO hnew hm1 hba h1
  go_wp2_with fail
  refine (HA.out _ hB1).mono ?_
  rintro e w2 ⟨rfl, hb2⟩
  have hr2 := (HM.out.then hb2).rd HR.out
  have hk2 := lkept hk1 hb2
  have h1 := hr2.at_
  obtain ⟨c0, c1, c2, cf⟩ := lcells3 hk2
  have HM2 : Hid (Moves w g m w2) := HM.out.then hb2
  have hsz : w.heap.size < w2.heap.size := lltn hk2
  clear HM HA hb2 hr2 hk1 hk2 hB1
  go_wp2_with fail
  refine bodyPost_ret (v := .agg #[.int .i64 k, .int .i64 m, .string (lba (unamp T))]) ?_ rfl ⟨rfl, ?_⟩
  · rw [results_cell1 rfl]
    go_simp
  · exact ((HM2.out.new _ _ (Nat.le_refl _) _).new _ _ (Nat.le_refl _) _).new _ _ (Nat.le_refl _) _
end Go.Proofs.YtdlnlepecdcmjaaDoor

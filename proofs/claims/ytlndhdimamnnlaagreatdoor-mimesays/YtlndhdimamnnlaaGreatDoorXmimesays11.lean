
import Derived.ChangeSlices
import Derived.Test.YtlndhdimamnnlaaGreatDoorXmimesays10
import Derived.Lib.Case
import Derived.Lib.CaseU
namespace Go.Proofs.YtlndhdimamnnlaaGreatDoor
open Go.ChangeShapes Go.WideShapes Go.ChangeAt Go.RowKit
theorem KAt.up {w : World} : ∀ (f : Nat) (a : Option Addr) (l : List PT), KAt w f a l → KAt w (f + 1) a l
 | 0, a, l, h => fun hne => absurd h hne
 | f + 1, a, l, h => fun hne => by
  obtain ⟨b, o, e, hc⟩ := h hne
  refine ⟨b, o, e, fun i hi => ?_⟩
  obtain ⟨pb, cb, pk, ck, h1, h2⟩ := hc i hi
  exact ⟨pb, cb, pk, ck, h1, h2.1, h2.2.1, h2.2.2.1, h2.2.2.2.1, KAt.up f _ _ h2.2.2.2.2⟩
theorem part_under : ∃ f0 f1 f2 f3 f4 f5 f6 : Field, Tryz.prog.underlying 25 = some (.struct #[f0, f1, f2, f3, f4, f5, f6]) ∧
  (f0.offset = 0 ∧ f1.offset = 1 ∧ f2.offset = 2 ∧ f3.offset = 3 ∧ f4.offset = 4 ∧ f5.offset = 5 ∧ f6.offset = 6) ∧
  (f0.type = 9 ∧ f1.type = 9 ∧ f2.type = 9 ∧ f3.type = 9 ∧ f4.type = 3 ∧ f5.type = 22 ∧ f6.type = 23) :=
 ⟨_, _, _, _, _, _, _, Tryz.underlying25, ⟨rfl, rfl, rfl, rfl, rfl, rfl, rfl⟩, ⟨rfl, rfl, rfl, rfl, rfl, rfl, rfl⟩⟩
theorem bytes_open {H : Type} {enc : TypeId × Value → H} {W : World} {held : Bool} {fuel : Nat} {cs : List Value} {x : DataW H × List MemPlace}
  (h : DataW.trod enc Tryz.prog W 0 (fun _ => true) held fuel 22 cs = some x) :
  ∃ (a : Option Addr) (c : Nat) (L : List UInt8), cs = [.slice a L.length c] ∧ L.length ≤ c ∧ c ≤ maxLen ∧ (a = none → c = 0) ∧ BRow W a L := by
 rcases open_ints Tryz.underlying22 Tryz.underlying5 (by kernel_rfl) h with ⟨hcs, _⟩ | ⟨a, l, c, zs, hcs, _, hl, hm, hz, _, hcell, hwz⟩
 ·exact ⟨none, 0, [], hcs, Nat.le_refl _, by decide, fun _ => rfl, fun h => absurd rfl h⟩
 ·obtain ⟨L, e, h1, h2, h3, h4⟩ := isRow_bytes (w := W) (a := some a) (len := l) (cap := c) (zs := zs) (.inr ⟨_, rfl, hl, hm, by simpa using hz, hcell, hwz⟩)
  subst e
  exact ⟨some a, c, L, hcs, h1, h2, (fun h => by cases h), h4⟩
set_option maxRecDepth 100000 in
theorem part_cells {H : Type} {enc : TypeId × Value → H} {W : World} {held : Bool} : ∀ (fuel : Nat) (cs : List Value) (x : DataW H × List MemPlace),
  DataW.trod enc Tryz.prog W 0 (fun _ => true) held fuel 25 cs = some x →
  ∃ (p : PT) (pb : Option Addr) (cb : Nat) (pk : Option Addr) (ck : Nat), cs = [.string p.ty, .string p.cs, .string p.id, .string p.loc, .int .i64 p.how, .slice pb p.body.length cb, .slice pk p.kids.length ck] ∧ PHeld W fuel p pb cb pk ck := by
 intro fuel
 induction fuel using Nat.strongRecOn with
 | _ fuel ih =>
  intro cs x h
  obtain ⟨f0, f1, f2, f3, f4, f5, f6, hu, ⟨o0, o1, o2, o3, o4, o5, o6⟩, ⟨t0, t1, t2, t3, t4, t5, t6⟩⟩ := part_under
  obtain ⟨xs, n, hfu, _, hlen, hxl, hf⟩ := DataW.trod_struct hu h
  have hcf : Tryz.prog.cellsOf 25 = 7 := by kernel_rfl
  have cs1 : Tryz.prog.cellsOf 9 = 1 := by kernel_rfl
  have ci1 : Tryz.prog.cellsOf 3 = 1 := by kernel_rfl
  have cb1 : Tryz.prog.cellsOf 22 = 1 := by kernel_rfl
  have cp1 : Tryz.prog.cellsOf 23 = 1 := by kernel_rfl
  rw [hcf] at hlen
  match xs, hxl, cs, hlen with
  | [y0, y1, y2, y3, y4, y5, y6], _, [v0, v1, v2, v3, v4, v5, v6], _ =>
   have g0 := hf 0 f0 rfl
   have g1 := hf 1 f1 rfl
   have g2 := hf 2 f2 rfl
   have g3 := hf 3 f3 rfl
   have g4 := hf 4 f4 rfl
   have g5 := hf 5 f5 rfl
   have g6 := hf 6 f6 rfl
   rw [t0, o0, cs1] at g0
   rw [t1, o1, cs1] at g1
   rw [t2, o2, cs1] at g2
   rw [t3, o3, cs1] at g3
   rw [t4, o4, ci1] at g4
   rw [t5, o5, cb1] at g5
   rw [t6, o6, cp1] at g6
   simp only [List.drop_zero, List.drop_succ_cons, List.take_succ_cons, List.take_zero, List.getElem?_cons_zero, List.getElem?_cons_succ] at g0 g1 g2 g3 g4 g5 g6
   obtain ⟨s0, e0, _, l0⟩ := DataW.trod_string Tryz.underlying9 g0
   obtain ⟨s1, e1, _, l1⟩ := DataW.trod_string Tryz.underlying9 g1
   obtain ⟨s2, e2, _, l2⟩ := DataW.trod_string Tryz.underlying9 g2
   obtain ⟨s3, e3, _, l3⟩ := DataW.trod_string Tryz.underlying9 g3
   obtain ⟨z, e4, _, hz⟩ := DataW.trod_int Tryz.underlying3 g4
   obtain ⟨pb, cb, body, e5, b1, b2, b3, b4⟩ := bytes_open g5
   have hz2 : -9223372036854775808 ≤ z ∧ z ≤ 9223372036854775807 := by
    simp only [Lit.wf, Bool.and_eq_true, decide_eq_true_eq] at hz
    exact hz
   have hbl : body.length ≤ maxLen := Nat.le_trans b1 b2
   rcases DataW.trod_slice Tryz.underlying23 g6 with ⟨e6, _⟩ | ⟨a, len, cap, elems, rest, m, hm, e6, _, _, hlc, hcm, hel, hev, _, _⟩
   ·refine ⟨⟨s0, s1, s2, s3, z, body, []⟩, pb, cb, none, 0, ?_, ⟨l0, l1, l2, l3, hz2.1, hz2.2, hbl, Nat.zero_le _⟩, ⟨b1, b2, b3⟩, b4, ⟨Nat.le_refl _, by decide, fun _ => rfl⟩, KAt.nil _ _ _⟩
    rw [(List.cons.inj e0).1, (List.cons.inj e1).1, (List.cons.inj e2).1, (List.cons.inj e3).1, (List.cons.inj e4).1, (List.cons.inj e5).1, (List.cons.inj e6).1]
    rfl
   ·have hspot : 0 < len → a.spot = none := fun hpos => by
     have h1 := hev 0 hpos
     rw [hcf, List.getElem?_eq_getElem (by omega)] at h1
     obtain ⟨ce, hce, hte⟩ := Option.bind_eq_some_iff.1 h1
     obtain ⟨q, qb, qc, qk, qd, e, hq⟩ := ih m (by omega) ce _ hte
     obtain ⟨_, _, hcc⟩ := World.cells?_some hce
     subst e
     have := hcc 0 (by omega)
     simpa [Addr.add] using World.cell?_spot (this.trans rfl)
    have each : ∀ i, i < len → ∃ q : PT, PAt W m a.block (a.off + i * 7) q := fun i hi => by
     have h1 := hev i hi
     rw [hcf, List.getElem?_eq_getElem (by omega)] at h1
     obtain ⟨ce, hce, hte⟩ := Option.bind_eq_some_iff.1 h1
     obtain ⟨q, qb, qc, qk, qd, e, hq⟩ := ih m (by omega) ce _ hte
     obtain ⟨_, _, hcc⟩ := World.cells?_some hce
     subst e
     have hs := hspot (by omega)
     obtain ⟨b, o, spot⟩ := a
     simp only at hs
     subst hs
     refine ⟨q, qb, qc, qk, qd, ?_, hq⟩
     have hc : ∀ j, j < 7 → W.cell? ⟨b, o + i * 7 + j, none⟩ = [Value.string q.ty, .string q.cs, .string q.id, .string q.loc, .int .i64 q.how, .slice qb q.body.length qc, .slice qk q.kids.length qd][j]? := fun j hj => by
      have := hcc j hj
      rw [Addr.add_lit, Addr.add_lit] at this
      exact this
     exact ⟨hc 0 (by omega), hc 1 (by omega), hc 2 (by omega), hc 3 (by omega), hc 4 (by omega), hc 5 (by omega), hc 6 (by omega)⟩
    haveI : Inhabited PT := ⟨pt0⟩
    obtain ⟨Q, hQ⟩ := Go.Deep.choose_lt each
    refine ⟨⟨s0, s1, s2, s3, z, body, (List.range len).map Q⟩, pb, cb, some a, cap, ?_, ⟨l0, l1, l2, l3, hz2.1, hz2.2, hbl, ?_⟩, ⟨b1, b2, b3⟩, b4, ⟨?_, hcm, fun h => by cases h⟩, ?_⟩
    ·rw [(List.cons.inj e0).1, (List.cons.inj e1).1, (List.cons.inj e2).1, (List.cons.inj e3).1, (List.cons.inj e4).1, (List.cons.inj e5).1, (List.cons.inj e6).1]
     simp
    ·simp; exact Nat.le_trans hlc hcm
    ·simp; exact hlc
    ·rw [hfu, hm]
     refine KAt.up _ _ _ fun hne => ?_
     have hpos : 0 < len := by
      rcases Nat.eq_zero_or_pos len with e | e
      ·subst e; exact absurd rfl hne
      ·exact e
     have hs := hspot hpos
     obtain ⟨b, o, spot⟩ := a
     simp only at hs
     subst hs
     refine ⟨b, o, rfl, fun i hi => ?_⟩
     have hi' : i < len := by simpa using hi
     have e1 : ((List.range len).map Q).getD i pt0 = Q i := by simp [List.getD_eq_getElem?_getD, hi']
     show PAt W m b (o + i * 7) (((List.range len).map Q).getD i pt0)
     rw [e1]
     exact hQ i hi'
set_option maxRecDepth 100000 in
theorem part_open {H : Type} {enc : TypeId × Value → H} {W : World} {base : Nat} {held : Bool} {fuel : Nat} {v : Value} {x : DataW H × List MemPlace}
  (hv : Value.okWide Tryz.prog W .any base 25 v) (h : DataW.trod enc Tryz.prog W 0 (fun _ => true) held fuel 25 v.cells.toList = some x) :
  ∃ (p : PT) (pb : Option Addr) (cb : Nat) (pk : Option Addr) (ck F : Nat), v = .agg #[.string p.ty, .string p.cs, .string p.id, .string p.loc, .int .i64 p.how, .slice pb p.body.length cb, .slice pk p.kids.length ck] ∧ PHeld W F p pb cb pk ck := by
 obtain ⟨cs, rfl, hsz⟩ := okWide_struct Tryz.underlying25 hv
 obtain ⟨p, pb, cb, pk, ck, e, hp⟩ := part_cells fuel _ x h
 refine ⟨p, pb, cb, pk, ck, fuel, ?_, hp⟩
 congr 1
 apply Array.toList_inj.1
 exact e
end Go.Proofs.YtlndhdimamnnlaaGreatDoor



namespace Go.Proofs.YtlndhdimamnnlaaGreatDoor
open Go.RowKit
def InB (Q : Nat → Prop) (p : Option Addr) : Prop := ∀ a, p = some a → Q a.block
def KFar (w : World) (Q : Nat → Prop) : Nat → Option Addr → List PT → Prop
 | 0, _, l => l = []
 | f + 1, a, l => l ≠ [] → ∃ b o, a = some ⟨b, o, none⟩ ∧ Q b ∧ ∀ i, i < l.length → ∃ pb cb pk ck, PCells w b (o + i * 7) (l.getD i pt0) pb cb pk ck ∧ InB Q pb ∧ PHeldK (KFar w Q f) w (l.getD i pt0) pb cb pk ck
def PFar (w : World) (Q : Nat → Prop) (f : Nat) (p : PT) (pb : Option Addr) (cb : Nat) (pk : Option Addr) (ck : Nat) : Prop := InB Q pb ∧ PHeldK (KFar w Q f) w p pb cb pk ck
theorem KFar.at {w : World} {Q : Nat → Prop} : ∀ (f : Nat) (a : Option Addr) (l : List PT), KFar w Q f a l → KAt w f a l
 | 0, _, _, h => h
 | f + 1, a, l, h => fun hne => by
  obtain ⟨b, o, e, _, hc⟩ := h hne
  refine ⟨b, o, e, fun i hi => ?_⟩
  obtain ⟨pb, cb, pk, ck, h1, _, h2⟩ := hc i hi
  exact ⟨pb, cb, pk, ck, h1, h2.1, h2.2.1, h2.2.2.1, h2.2.2.2.1, KFar.at f _ _ h2.2.2.2.2⟩
theorem PFar.held {w : World} {Q : Nat → Prop} {f : Nat} {p : PT} {pb : Option Addr} {cb : Nat} {pk : Option Addr} {ck : Nat} (h : PFar w Q f p pb cb pk ck) : PHeld w f p pb cb pk ck := ⟨h.2.1, h.2.2.1, h.2.2.2.1, h.2.2.2.2.1, KFar.at f _ _ h.2.2.2.2.2⟩
theorem KFar.nil (w : World) (Q : Nat → Prop) (f : Nat) (a : Option Addr) : KFar w Q f a [] := by
 cases f with
 | zero => rfl
 | succ f => exact fun h => absurd rfl h
theorem KFar.up {w : World} {Q : Nat → Prop} : ∀ (f : Nat) (a : Option Addr) (l : List PT), KFar w Q f a l → KFar w Q (f + 1) a l
 | 0, a, l, h => fun hne => absurd h hne
 | f + 1, a, l, h => fun hne => by
  obtain ⟨b, o, e, hb, hc⟩ := h hne
  refine ⟨b, o, e, hb, fun i hi => ?_⟩
  obtain ⟨pb, cb, pk, ck, h1, hq, h2⟩ := hc i hi
  exact ⟨pb, cb, pk, ck, h1, hq, h2.1, h2.2.1, h2.2.2.1, h2.2.2.2.1, KFar.up f _ _ h2.2.2.2.2⟩
theorem BRow.move {w w' : World} {Q : Nat → Prop} (hm : ∀ b, Q b → b < w.heap.size → w'.heap[b]? = w.heap[b]?) {p : Option Addr} {l : List UInt8} (h : BRow w p l) (hq : InB Q p) : BRow w' p l := by
 intro hne
 obtain ⟨b, o, e, hl⟩ := h hne
 refine ⟨b, o, e, fun i hi => ?_⟩
 have h1 := hl i hi
 rw [World.cell?_of_block (hm b (hq _ e) (World.block_lt_of_cell? w _ h1))]
 exact h1
theorem KFar.move {w w' : World} {Q : Nat → Prop} (hm : ∀ b, Q b → b < w.heap.size → w'.heap[b]? = w.heap[b]?) : ∀ (f : Nat) (a : Option Addr) (l : List PT), KFar w Q f a l → KFar w' Q f a l
 | 0, _, _, h => h
 | f + 1, a, l, h => fun hne => by
  obtain ⟨b, o, e, hb, hc⟩ := h hne
  refine ⟨b, o, e, hb, fun i hi => ?_⟩
  obtain ⟨pb, cb, pk, ck, h1, hq, h2⟩ := hc i hi
  obtain ⟨c0, c1, c2, c3, c4, c5, c6⟩ := h1
  have hbl := hm b hb (World.block_lt_of_cell? w _ c0)
  have k : ∀ j, w'.cell? ⟨b, j, none⟩ = w.cell? ⟨b, j, none⟩ := fun j => World.cell?_of_block hbl
  exact ⟨pb, cb, pk, ck, ⟨(k _).trans c0, (k _).trans c1, (k _).trans c2, (k _).trans c3, (k _).trans c4, (k _).trans c5, (k _).trans c6⟩, hq, h2.1, h2.2.1, BRow.move hm h2.2.2.1 hq, h2.2.2.2.1, KFar.move hm f _ _ h2.2.2.2.2⟩
theorem PFar.move {w w' : World} {Q : Nat → Prop} (hm : ∀ b, Q b → b < w.heap.size → w'.heap[b]? = w.heap[b]?) {f : Nat} {p : PT} {pb : Option Addr} {cb : Nat} {pk : Option Addr} {ck : Nat} (h : PFar w Q f p pb cb pk ck) : PFar w' Q f p pb cb pk ck :=
 ⟨h.1, h.2.1, h.2.2.1, BRow.move hm h.2.2.2.1 h.1, h.2.2.2.2.1, KFar.move hm f _ _ h.2.2.2.2.2⟩
theorem KFar.kind {w : World} {Q Q' : Nat → Prop} (hk : ∀ b, Q b → Q' b) : ∀ (f : Nat) (a : Option Addr) (l : List PT), KFar w Q f a l → KFar w Q' f a l
 | 0, _, _, h => h
 | f + 1, a, l, h => fun hne => by
  obtain ⟨b, o, e, hb, hc⟩ := h hne
  refine ⟨b, o, e, hk b hb, fun i hi => ?_⟩
  obtain ⟨pb, cb, pk, ck, h1, hq, h2⟩ := hc i hi
  exact ⟨pb, cb, pk, ck, h1, (fun a ha => hk _ (hq a ha)), h2.1, h2.2.1, h2.2.2.1, h2.2.2.2.1, KFar.kind hk f _ _ h2.2.2.2.2⟩
theorem PFar.kind {w : World} {Q Q' : Nat → Prop} (hk : ∀ b, Q b → Q' b) {f : Nat} {p : PT} {pb : Option Addr} {cb : Nat} {pk : Option Addr} {ck : Nat} (h : PFar w Q f p pb cb pk ck) : PFar w Q' f p pb cb pk ck :=
 ⟨fun a ha => hk _ (h.1 a ha), h.2.1, h.2.2.1, h.2.2.2.1, h.2.2.2.2.1, KFar.kind hk f _ _ h.2.2.2.2.2⟩
theorem PFar.below {w w' : World} {Q : Nat → Prop} {f : Nat} {p : PT} {pb : Option Addr} {cb : Nat} {pk : Option Addr} {ck : Nat} (h : PFar w Q f p pb cb pk ck) (hb : Below w.heap.size w w') : PFar w' Q f p pb cb pk ck := h.move fun b _ hlt => hb.block b hlt
def CountAt (w : World) (g : Nat) (n : Int) : Prop := w.heap[g]? = some (.cells #[.int .i64 n] 3)
theorem CountAt.cell {w : World} {g : Nat} {n : Int} (h : CountAt w g n) : w.cell? ⟨g, 0, none⟩ = some (.int .i64 n) := (cell_of_row w g 0 #[.int .i64 n] 3 (0, 0) h).trans rfl
theorem CountAt.lt {w : World} {g : Nat} {n : Int} (h : CountAt w g n) : g < w.heap.size := (Array.getElem?_eq_some_iff.1 h).1
theorem CountAt.frozen {w : World} {g : Nat} {n : Int} (h : CountAt w g n) : w.frozen? ⟨g, 0, none⟩ = false := by simp [World.frozen?, show w.heap[g]? = _ from h]
theorem CountAt.set {w : World} {g : Nat} {n : Int} (h : CountAt w g n) (m : Int) : CountAt (w.setCell ⟨g, 0, none⟩ (.int .i64 m)) g m := by
 unfold CountAt
 rw [heap_setCell_same w g 0 #[.int .i64 n] 3 (.int .i64 m) h]
 rfl
theorem CountAt.below {w w' : World} {g : Nat} {n : Int} (h : CountAt w g n) (hb : Below w.heap.size w w') : CountAt w' g n := by
 unfold CountAt
 rw [hb.block g h.lt]
 exact h
theorem BRow.count {w : World} {p : Option Addr} {l : List UInt8} (h : BRow w p l) {g : Nat} {n : Int} (hc : CountAt w g n) (v : Value) : BRow (w.setCell ⟨g, 0, none⟩ v) p l := by
 intro hne
 obtain ⟨b, o, e, hl⟩ := h hne
 refine ⟨b, o, e, fun i hi => ?_⟩
 have h1 := hl i hi
 rw [World.cell?_setCell_other _ _ _ _ (fun e => by rw [← e, hc.cell] at h1; cases h1)]
 exact h1
def Ticks (w : World) (g : Nat) (m : Int) (w' : World) : Prop := Below w.heap.size (w.setCell ⟨g, 0, none⟩ (.int .i64 m)) w'
theorem Ticks.count {w w' : World} {g : Nat} {n m : Int} (h : Ticks w g m w') (hc : CountAt w g n) : CountAt w' g m := by
 have h1 := hc.set m
 have hs : (w.setCell ⟨g, 0, none⟩ (.int .i64 m)).heap.size = w.heap.size := by simp [World.setCell]
 exact h1.below (by rw [hs]; exact h)
theorem Ticks.bytes {w w' : World} {g : Nat} {n m : Int} (h : Ticks w g m w') (hc : CountAt w g n) {p : Option Addr} {l : List UInt8} (hr : BRow w p l) : BRow w' p l := by
 have h1 := hr.count hc (.int .i64 m)
 have hs : (w.setCell ⟨g, 0, none⟩ (.int .i64 m)).heap.size = w.heap.size := by simp [World.setCell]
 exact h1.under (by rw [hs]; exact h)
theorem set_size (w : World) (g : Nat) (v : Value) : (w.setCell ⟨g, 0, none⟩ v).heap.size = w.heap.size := by simp [World.setCell]
theorem Ticks.size {w w' : World} {g : Nat} {m : Int} (h : Ticks w g m w') : w.heap.size ≤ w'.heap.size := by
 have h1 : Below w.heap.size (w.setCell ⟨g, 0, none⟩ (.int .i64 m)) w' := h
 have h2 := h1.size
 rw [set_size] at h2
 exact h2
theorem Ticks.block {w w' : World} {g : Nat} {m : Int} (h : Ticks w g m w') (b : Nat) (hb : b < w.heap.size) (hg : b ≠ g) : w'.heap[b]? = w.heap[b]? := by
 have h1 : Below w.heap.size (w.setCell ⟨g, 0, none⟩ (.int .i64 m)) w' := h
 rw [h1.block b hb, Below.heap_setCell _ _ _ _ hg]
theorem Ticks.far {w w' : World} {g : Nat} {m : Int} (h : Ticks w g m w') {Q : Nat → Prop} (hq : ∀ b, Q b → b ≠ g) {f : Nat} {p : PT} {pb : Option Addr} {cb : Nat} {pk : Option Addr} {ck : Nat} (hp : PFar w Q f p pb cb pk ck) : PFar w' Q f p pb cb pk ck := hp.move fun b hb hlt => h.block b hlt (hq b hb)
theorem Ticks.trans {w w1 w2 : World} {g : Nat} {n m k : Int} (h1 : Ticks w g m w1) (h2 : Ticks w1 g k w2) (hc : CountAt w g n) : Ticks w g k w2 := by
 have c1 := h1.count hc
 have c2 := h2.count c1
 have b1 : Below w.heap.size (w.setCell ⟨g, 0, none⟩ (.int .i64 m)) w1 := h1
 have b2 : Below w1.heap.size (w1.setCell ⟨g, 0, none⟩ (.int .i64 k)) w2 := h2
 refine ⟨b2.os.trans b1.os, b2.tape.trans b1.tape, b2.output.trans b1.output, ?_, fun i hi => ?_⟩
 ·rw [set_size]
  exact Nat.le_trans h1.size h2.size
 ·by_cases e : i = g
  ·subst e
   rw [show w2.heap[i]? = _ from c2, show (w.setCell ⟨i, 0, none⟩ (.int .i64 k)).heap[i]? = _ from hc.set k]
  ·rw [b2.block i (Nat.lt_of_lt_of_le hi h1.size), Below.heap_setCell _ _ _ _ e, b1.block i hi, Below.heap_setCell _ _ _ _ e, Below.heap_setCell _ _ _ _ e]
theorem Ticks.then {w w1 w2 : World} {g : Nat} {m : Int} (h1 : Ticks w g m w1) (h2 : Below w1.heap.size w1 w2) : Ticks w g m w2 := by
 have b1 : Below w.heap.size (w.setCell ⟨g, 0, none⟩ (.int .i64 m)) w1 := h1
 exact b1.trans (h2.mono h1.size)
theorem Ticks.base {w0 w w' : World} {g : Nat} {m : Int} (h : Ticks w g m w') (hb : Below w0.heap.size w0 w) (hg : w0.heap.size ≤ g) : Below w0.heap.size w0 w' :=
 (hb.setCell (p := ⟨g, 0, none⟩) hg (.int .i64 m)).trans (h.mono hb.size)
theorem Ticks.owns {w w' : World} {g : Nat} {m : Int} (h : Ticks w g m w') {B e s k : Nat} {v : Value} {xs : List Value} (ho : w.ownsRow B e s v k xs) (hB : g < B) : w'.ownsRow B e s v k xs := by
 have h1 := ownsRow_setCell_below ho (a := ⟨g, 0, none⟩) hB (.int .i64 m)
 have hs : (w.setCell ⟨g, 0, none⟩ (.int .i64 m)).heap.size = w.heap.size := by simp [World.setCell]
 exact ownsRow_below h1 (by rw [hs]; exact h)
end Go.Proofs.YtlndhdimamnnlaaGreatDoor



namespace Go.Proofs.YtlndhdimamnnlaaGreatDoor
def cutP (d : UInt8) (l : List UInt8) : List UInt8 × List UInt8 × Bool := match cutB d l with | none => (l, [], false) | some x => (x.1, x.2, true)
theorem cutP_none {d : UInt8} {l : List UInt8} (h : cutB d l = none) : cutP d l = (l, [], false) := by rw [cutP, h]
theorem cutP_some {d : UInt8} {l a b : List UInt8} (h : cutB d l = some (a, b)) : cutP d l = (a, b, true) := by rw [cutP, h]
theorem cutP_length (d : UInt8) (l : List UInt8) : (cutP d l).1.length ≤ l.length ∧ (cutP d l).2.1.length ≤ l.length ∧ ((cutP d l).2.2 = true → (cutP d l).1.length + (cutP d l).2.1.length + 1 = l.length) := by
 cases h : cutB d l with
 | none => rw [cutP_none h]; simp
 | some x =>
  obtain ⟨a, b⟩ := x
  rw [cutP_some h]
  have := congrArg List.length (cutB_some d l a b h).1
  simp at this ⊢
  omega
theorem cutP_mem (d : UInt8) (l : List UInt8) (c : UInt8) : (c ∈ (cutP d l).1 → c ∈ l) ∧ (c ∈ (cutP d l).2.1 → c ∈ l) := by
 cases h : cutB d l with
 | none => rw [cutP_none h]; simp
 | some x =>
  obtain ⟨a, b⟩ := x
  rw [cutP_some h]
  have := (cutB_some d l a b h).1
  rw [this]
  simp
  constructor
  ·intro h; exact .inl h
  ·intro h; exact .inr (.inr h)
def small8 (l : List UInt8) : List UInt8 := Lib.toLowerA l
def setS (l : List UInt8) : List UInt8 × List UInt8 × Bool × Bool :=
 if l.head? = some 34 then
  ((cutP 34 l.tail).1, (cutP 59 (cutP 34 l.tail).2.1).2.1, (cutP 59 (cutP 34 l.tail).2.1).2.2, (cutP 34 l.tail).2.2 && (trimBy isSp (cutP 59 (cutP 34 l.tail).2.1).1).isEmpty)
 else
  (dropEnd isSp (cutP 59 l).1, (cutP 59 l).2.1, (cutP 59 l).2.2, tokenS (dropEnd isSp (cutP 59 l).1))
def nameS (l : List UInt8) : List UInt8 := trimBy isSp (cutP 61 l).1
def restS (l : List UInt8) : List UInt8 × List UInt8 × Bool × Bool := setS ((cutP 61 l).2.1.dropWhile isSp)
def nameOk (l : List UInt8) : Bool := (cutP 61 l).2.2 && tokenS (nameS l)
def paramOk (l : List UInt8) : Bool := nameOk l && (restS l).2.2.2
def paramFld (l : List UInt8) : Fld := (small8 (nameS l), (restS l).1)
def paramsGo : Nat → List UInt8 → Bool → List Fld → Except Nat (List Fld)
 | 0, _, _, _ => .error 1
 | g + 1, r, more, fs =>
  if more = true then
   if paramOk r = true then (if 20 < fs.length + 1 then .error 2 else paramsGo g (restS r).2.1 (restS r).2.2.1 (fs ++ [paramFld r])) else .error 1
  else .ok fs
def outP (m : List UInt8) : Except Nat (List Fld) → List UInt8 × List Fld × Nat
 | .error e => ([], [], e)
 | .ok fs => (m, fs, 0)
def paramsF (s : List UInt8) : List UInt8 × List Fld × Nat :=
 if valueS s = true then outP (small8 (trimBy isSp (cutP 59 s).1)) (paramsGo (s.length + 1) (cutP 59 s).2.1 (cutP 59 s).2.2 []) else ([], [], 1)
theorem mem_dropEnd {p : UInt8 → Bool} {l : List UInt8} {c : UInt8} (h : c ∈ dropEnd p l) : c ∈ l := by
 unfold dropEnd at h
 rw [List.mem_reverse] at h
 have := (List.dropWhile_sublist p).subset h
 simpa using this
theorem mem_trimBy {p : UInt8 → Bool} {l : List UInt8} {c : UInt8} (h : c ∈ trimBy p l) : c ∈ l := mem_dropEnd ((List.dropWhile_sublist p).subset h)
theorem setS_length (l : List UInt8) : (setS l).1.length ≤ l.length ∧ (setS l).2.1.length ≤ l.length := by
 unfold setS
 split
 ·have h1 := cutP_length 34 l.tail
  have h2 := cutP_length 59 (cutP 34 l.tail).2.1
  have h3 : l.tail.length ≤ l.length := by rw [List.length_tail]; omega
  simp only
  omega
 ·have h1 := cutP_length 59 l
  have h2 := dropEnd_length isSp (cutP 59 l).1
  simp only
  omega
theorem restS_length (l : List UInt8) (h : nameOk l = true) : (restS l).1.length < l.length ∧ (restS l).2.1.length < l.length := by
 have h0 : (cutP 61 l).2.2 = true := by rw [nameOk, Bool.and_eq_true] at h; exact h.1
 have h1 := (cutP_length 61 l).2.2 h0
 have h2 := setS_length ((cutP 61 l).2.1.dropWhile isSp)
 have h3 := (List.dropWhile_sublist isSp (l := (cutP 61 l).2.1)).length_le
 unfold restS
 omega
end Go.Proofs.YtlndhdimamnnlaaGreatDoor



namespace Go.Proofs.YtlndhdimamnnlaaGreatDoor
open Go.Lib
def orbOf : DataW Unit → List (Nat × Nat)
 | .slice els _ => els.filterMap fun
  | .agg [.lit (.int _ a), .lit (.int _ b)] => some (a.toNat, b.toNat)
  | _ => none
 | _ => []
def ascOf : DataW Unit → List Nat
 | .agg els => els.filterMap fun
  | .lit (.int _ a) => some a.toNat
  | _ => none
 | _ => []
def orb : List (Nat × Nat) := orbOf Rows.laid_unicode_caseOrbit
def asc : List Nat := ascOf Rows.laid_unicode_asciiFold
def sfold (r : Nat) : Nat :=
 if r < 128 then asc.getD r 0
 else match orb.find? (fun x => x.1 == r) with
  | some x => x.2
  | none => match lookupIdx caseA r (caseA.size + 1) 0 caseA.size with
   | some i => if convertR 1 r (caseA.getD i (0, 0, 0, 0, 0)) ≠ r then (convertR 1 r (caseA.getD i (0, 0, 0, 0, 0))).toNat else (convertR 0 r (caseA.getD i (0, 0, 0, 0, 0))).toNat
   | none => r
def foldsBack (r : Nat) : Bool := sfold r == r || sfold (sfold r) == r || sfold (sfold (sfold r)) == r || sfold (sfold (sfold (sfold r))) == r
def rowsBack (a b : Nat) : Bool := ((caseT.drop a).take b).all fun x => (List.range (x.2.1 + 1 - x.1)).all fun k => foldsBack (x.1 + k)
set_option maxRecDepth 1000000 in
theorem ascBack : (List.range 128).all foldsBack = true := by decide +kernel
set_option maxRecDepth 1000000 in
theorem back0 : rowsBack 0 8 = true := by decide +kernel
set_option maxRecDepth 1000000 in
theorem back8 : rowsBack 8 8 = true := by decide +kernel
set_option maxRecDepth 1000000 in
theorem back16 : rowsBack 16 8 = true := by decide +kernel
set_option maxRecDepth 1000000 in
theorem back24 : rowsBack 24 8 = true := by decide +kernel
set_option maxRecDepth 1000000 in
theorem back32 : rowsBack 32 8 = true := by decide +kernel
set_option maxRecDepth 1000000 in
theorem back40 : rowsBack 40 8 = true := by decide +kernel
set_option maxRecDepth 1000000 in
theorem back48 : rowsBack 48 8 = true := by decide +kernel
set_option maxRecDepth 1000000 in
theorem back56 : rowsBack 56 8 = true := by decide +kernel
set_option maxRecDepth 1000000 in
theorem back64 : rowsBack 64 8 = true := by decide +kernel
set_option maxRecDepth 1000000 in
theorem back72 : rowsBack 72 8 = true := by decide +kernel
set_option maxRecDepth 1000000 in
theorem back80 : rowsBack 80 8 = true := by decide +kernel
set_option maxRecDepth 1000000 in
theorem back88 : rowsBack 88 8 = true := by decide +kernel
set_option maxRecDepth 1000000 in
theorem back96 : rowsBack 96 8 = true := by decide +kernel
set_option maxRecDepth 1000000 in
theorem back104 : rowsBack 104 8 = true := by decide +kernel
set_option maxRecDepth 1000000 in
theorem back112 : rowsBack 112 8 = true := by decide +kernel
set_option maxRecDepth 1000000 in
theorem back120 : rowsBack 120 8 = true := by decide +kernel
set_option maxRecDepth 1000000 in
theorem back128 : rowsBack 128 8 = true := by decide +kernel
set_option maxRecDepth 1000000 in
theorem back136 : rowsBack 136 8 = true := by decide +kernel
set_option maxRecDepth 1000000 in
theorem back144 : rowsBack 144 8 = true := by decide +kernel
set_option maxRecDepth 1000000 in
theorem back152 : rowsBack 152 8 = true := by decide +kernel
set_option maxRecDepth 1000000 in
theorem back160 : rowsBack 160 8 = true := by decide +kernel
set_option maxRecDepth 1000000 in
theorem back168 : rowsBack 168 8 = true := by decide +kernel
set_option maxRecDepth 1000000 in
theorem back176 : rowsBack 176 8 = true := by decide +kernel
set_option maxRecDepth 1000000 in
theorem back184 : rowsBack 184 8 = true := by decide +kernel
set_option maxRecDepth 1000000 in
theorem back192 : rowsBack 192 8 = true := by decide +kernel
set_option maxRecDepth 1000000 in
theorem back200 : rowsBack 200 8 = true := by decide +kernel
set_option maxRecDepth 1000000 in
theorem back208 : rowsBack 208 8 = true := by decide +kernel
set_option maxRecDepth 1000000 in
theorem back216 : rowsBack 216 8 = true := by decide +kernel
set_option maxRecDepth 1000000 in
theorem back224 : rowsBack 224 8 = true := by decide +kernel
set_option maxRecDepth 1000000 in
theorem back232 : rowsBack 232 8 = true := by decide +kernel
set_option maxRecDepth 1000000 in
theorem back240 : rowsBack 240 8 = true := by decide +kernel
set_option maxRecDepth 1000000 in
theorem back248 : rowsBack 248 8 = true := by decide +kernel
set_option maxRecDepth 1000000 in
theorem back256 : rowsBack 256 8 = true := by decide +kernel
set_option maxRecDepth 1000000 in
theorem back264 : rowsBack 264 8 = true := by decide +kernel
set_option maxRecDepth 1000000 in
theorem back272 : rowsBack 272 8 = true := by decide +kernel
set_option maxRecDepth 1000000 in
theorem back280 : rowsBack 280 8 = true := by decide +kernel
set_option maxRecDepth 1000000 in
theorem back288 : rowsBack 288 8 = true := by decide +kernel
set_option maxRecDepth 1000000 in
theorem back296 : rowsBack 296 8 = true := by decide +kernel
set_option maxRecDepth 1000000 in
theorem back304 : rowsBack 304 8 = true := by decide +kernel
set_option maxRecDepth 1000000 in
theorem back312 : rowsBack 312 8 = true := by decide +kernel
set_option maxRecDepth 1000000 in
theorem back320 : rowsBack 320 8 = true := by decide +kernel
set_option maxRecDepth 1000000 in
theorem back328 : rowsBack 328 8 = true := by decide +kernel
end Go.Proofs.YtlndhdimamnnlaaGreatDoor



namespace Go.Proofs.YtlndhdimamnnlaaGreatDoor
open Go.Lib
theorem foldPieces : ∀ q : Nat, q < 42 → rowsBack (q * 8) 8 = true
 | 0, _ => back0
 | 1, _ => back8
 | 2, _ => back16
 | 3, _ => back24
 | 4, _ => back32
 | 5, _ => back40
 | 6, _ => back48
 | 7, _ => back56
 | 8, _ => back64
 | 9, _ => back72
 | 10, _ => back80
 | 11, _ => back88
 | 12, _ => back96
 | 13, _ => back104
 | 14, _ => back112
 | 15, _ => back120
 | 16, _ => back128
 | 17, _ => back136
 | 18, _ => back144
 | 19, _ => back152
 | 20, _ => back160
 | 21, _ => back168
 | 22, _ => back176
 | 23, _ => back184
 | 24, _ => back192
 | 25, _ => back200
 | 26, _ => back208
 | 27, _ => back216
 | 28, _ => back224
 | 29, _ => back232
 | 30, _ => back240
 | 31, _ => back248
 | 32, _ => back256
 | 33, _ => back264
 | 34, _ => back272
 | 35, _ => back280
 | 36, _ => back288
 | 37, _ => back296
 | 38, _ => back304
 | 39, _ => back312
 | 40, _ => back320
 | 41, _ => back328
 | n + 42, h => absurd h (by omega)
theorem row_back (i : Nat) (x : CaseRow) (hx : caseT[i]? = some x) (hi : i < 336) (r : Nat) (h1 : x.1 ≤ r) (h2 : r ≤ x.2.1) : foldsBack r = true := by
 have h := foldPieces (i / 8) (by omega)
 rw [rowsBack, List.all_eq_true] at h
 have hm : x ∈ (caseT.drop (i / 8 * 8)).take 8 := by
  refine List.mem_of_getElem? (i := i % 8) ?_
  rw [List.getElem?_take_of_lt (by omega), List.getElem?_drop, show i / 8 * 8 + i % 8 = i from by omega]
  exact hx
 have h3 := h x hm
 rw [List.all_eq_true] at h3
 have h4 := h3 (r - x.1) (by rw [List.mem_range]; omega)
 rwa [show x.1 + (r - x.1) = r from by omega] at h4
theorem lookup_in (T : Array CaseRow) (r : Int) : ∀ (f lo hi : Nat) (i : Nat), lookupIdx T r f lo hi = some i → i < hi ∧ ((T.getD i (0, 0, 0, 0, 0)).1 : Int) ≤ r ∧ r ≤ ((T.getD i (0, 0, 0, 0, 0)).2.1 : Int)
 | 0, _, _, _, h => by rw [lookupIdx] at h; cases h
 | f + 1, lo, hi, i, h => by
  rw [lookupIdx] at h
  by_cases h1 : lo < hi
  ·rw [if_pos h1] at h
   by_cases h2 : ((T.getD ((lo + hi) / 2) (0, 0, 0, 0, 0)).1 : Int) ≤ r ∧ r ≤ ((T.getD ((lo + hi) / 2) (0, 0, 0, 0, 0)).2.1 : Int)
   ·rw [if_pos h2] at h
    obtain rfl := Option.some.inj h
    exact ⟨by omega, h2⟩
   ·rw [if_neg h2] at h
    by_cases h3 : r < ((T.getD ((lo + hi) / 2) (0, 0, 0, 0, 0)).1 : Int)
    ·rw [if_pos h3] at h
     have := lookup_in T r f _ _ i h
     exact ⟨by omega, this.2⟩
    ·rw [if_neg h3] at h
     exact lookup_in T r f _ _ i h
  ·rw [if_neg h1] at h; cases h
theorem caseT_length : caseT.length = 336 := by decide +kernel
set_option maxRecDepth 1000000 in
theorem orbBack : orb.all (fun x => foldsBack x.1) = true := by decide +kernel
theorem sfold_far (r : Nat) (h : ¬ r < 128) (ho : orb.find? (fun x => x.1 == r) = none) (hl : lookupIdx caseA r (caseA.size + 1) 0 caseA.size = none) : sfold r = r := by
 rw [sfold, if_neg h, ho]
 simp only
 rw [hl]
theorem list_at (t : List CaseRow) (i : Nat) (hi : i < t.length) : t[i]? = some (t.toArray.getD i (0, 0, 0, 0, 0)) := by
 rw [List.getElem?_eq_getElem hi]
 simp [Array.getD, hi]
theorem folds_back (r : Nat) : foldsBack r = true := by
 by_cases h : r < 128
 ·exact List.all_eq_true.1 ascBack r (by rw [List.mem_range]; exact h)
 ·cases ho : orb.find? (fun x => x.1 == r) with
  | some x =>
   have hm := List.mem_of_find?_eq_some ho
   have he := List.find?_some ho
   have : x.1 = r := by simpa using he
   rw [← this]
   exact List.all_eq_true.1 orbBack x hm
  | none =>
   cases hl : lookupIdx caseA r (caseA.size + 1) 0 caseA.size with
   | none => rw [foldsBack, sfold_far r h ho hl]; simp
   | some i =>
    obtain ⟨hi, h1, h2⟩ := lookup_in caseA r _ _ _ i hl
    have hs : caseA.size = caseT.length := by rw [caseA, List.size_toArray]
    rw [hs, caseT_length] at hi
    have hx : caseT[i]? = some (caseA.getD i (0, 0, 0, 0, 0)) := list_at caseT i (by rw [caseT_length]; exact hi)
    exact row_back i _ hx hi r (by omega) (by omega)
end Go.Proofs.YtlndhdimamnnlaaGreatDoor


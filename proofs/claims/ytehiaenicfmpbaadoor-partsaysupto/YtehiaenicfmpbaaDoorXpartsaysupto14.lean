/- slices.Concat of two lists of parts answers both, one behind the other, in new memory. Nothing that was there is changed. Conditions: the cells lie there. -/
import Derived.Test.YtehiaenicfmpbaaDoorXpartsaysupto11
import Derived.Laws.AppendOwnNone
import Derived.Lib.AppendZeros
import Derived.Test.YtehiaenicfmpbaaDoorXpartsaysupto9
import Derived.Lib.SlBytesConst
import Derived.Test.YtehiaenicfmpbaaDoorXpartsaysupto2
import Derived.ChangeSlices
import Derived.Deep.SlicePairs
namespace Go.Proofs.YtehiaenicfmpbaaDoor
open Go.RowKit

theorem infoP : (Tryd.prog.info? 65).map (fun i => (i.zero, i.size, i.bytes)) = some (some (.agg #[.string ⟨#[]⟩, .string ⟨#[]⟩, .string ⟨#[]⟩, .string ⟨#[]⟩, .int .i64 0, .slice none 0 0, .slice none 0 0]), 7, 120) := by kernel_rfl

theorem append_rowP {w : World} {ops : Array Oper} {rest : List Oper} {o : Oper} {a : Act} {Q : Exit → Act → World → Prop} (hgd : o.guard = none) (s x : Operand)
    (ho : o.op = .call { callee := .builtin .append, args := #[s, x], argTypes := #[63, 63] })
    (base : Nat) (v : Value) (n : Nat) (xs : List Value) (hs : a.eval s = v) (hown : w.ownsRow base 65 7 v n xs)
    (p : Option Addr) (l : List Value) (m c : Nat) (em : l.length = m * 7) (hx : a.eval x = .slice p m c) (hr : Cells w p l) (h1c : ∀ u ∈ l, u.oneCell' = true) (hp : p = none → m = 0 ∧ c = 0)
    (h63 : n + m ≤ 100000000) (hbase : base ≤ w.heap.size)
    (h : ∀ v' w', w'.ownsRow base 65 7 v' (n + m) (xs ++ l) → w.grownBy w' v.ownBlock → wpList Tryd.prog ops Q rest (a.put o.dst v') w') : wpList Tryd.prog ops Q (o :: rest) a w := by
  obtain ⟨i0, hi, hz0, hz1, hz2⟩ := info_parts infoP
  cases p with
  | none =>
    obtain ⟨rfl, rfl⟩ := hp rfl
    have hl : l = [] := List.length_eq_zero_iff.1 (em.trans (Nat.zero_mul _))
    subst hl
    refine wpList_append_own_none hgd s x 63 ho base 65 i0 7 Tryd.underlying63 hi v n xs hs hown hx ?_
    refine h v w (by simpa using hown) (World.grownBy.refl _ _)
  | some ad =>
    refine wpList_append_own _ hgd s x 63 ho base 65 i0 (.agg #[.string ⟨#[]⟩, .string ⟨#[]⟩, .string ⟨#[]⟩, .string ⟨#[]⟩, .int .i64 0, .slice none 0 0, .slice none 0 0]) 7 120 Tryd.underlying63 hi hz0 hz1 hz2 rfl (by decide) v n xs hs hown ad m c l hx em ?_ h1c (by unfold maxLen; omega) (by omega) hbase (fun v' w' h1 h2 _ => h v' w' h1 h2)
    intro j u hj
    obtain ⟨b, o', e, hc⟩ := hr (fun e => by rw [e] at hj; simp at hj)
    obtain rfl := Option.some.inj e
    rw [Addr.add_lit]
    exact hc j u hj

set_option maxHeartbeats 1000000 in
set_option maxRecDepth 100000 in
theorem growNilP (N : Nat) (NN : Int) (eN : NN = (N : Int)) (hN : N ≤ 100000) (w : World) :
    Calls Tryd.prog 166 #[.slice none 0 0, .int .i64 NN] w fun e w' => Below w.heap.size w w' ∧ ∃ p c, e = .returned (.slice p 0 c) ∧ w'.ownsRow w.heap.size 65 7 (.slice p 0 c) 0 [] := by
  subst eN
  obtain ⟨i0, hi, hz0, hz1, hz2⟩ := info_parts infoP
  rcases Nat.eq_zero_or_pos N with h0 | h0
  · subst h0
    go_enter Tryd.func166, Tryd.ntmps166
    go_wp2
    go_ret
    exact ⟨Below.refl _ _, none, 0, rfl, World.ownsRow_nil _ _ _ _⟩
  · have h0' : (0 : Int) < (N : Int) := by omega
    have hr := fun ty => Lib.run_append_nil_zeros (P := Tryd.prog) w 63 3 ty 65 i0 (.agg #[.string ⟨#[]⟩, .string ⟨#[]⟩, .string ⟨#[]⟩, .string ⟨#[]⟩, .int .i64 0, .slice none 0 0, .slice none 0 0]) .i64 .i64 Tryd.underlying63 Tryd.underlying3 hi hz0 N h0 (by rw [hz1]; decide) (by omega) (by rw [hz2]; omega)
    obtain ⟨G, hG⟩ : ∃ G, grownCap w N 0 65 = G := ⟨_, rfl⟩
    have hGe : N ≤ G := by rw [← hG]; exact grownCap_ge w _ _ _
    have hGm : G ≤ maxLen := by rw [← hG]; exact grownCap_le_maxLen w N 0 65 (by unfold maxLen; omega)
    rw [hG] at hr
    have hGi : (N : Int) ≤ (G : Int) := by omega
    clear hG
    go_enter Tryd.func166, Tryd.ntmps166
    go_wp2_with (at_builtin; refine Lib.wpList_append_run _ rfl (.tmp 20) (.tmp 21) 63 3 rfl _ _ rfl rfl _ _ (hr _) ?_)
    clear hr
    go_wp2
    go_ret
    refine ⟨((Below.refl _ _).alloc (Nat.le_refl _) _).drew, some ⟨w.heap.size, 0, none⟩, G, rfl, ?_⟩
    refine ⟨rfl, .inr ⟨w.heap.size, G, Builtin.zeroCells #[.string ⟨#[]⟩, .string ⟨#[]⟩, .string ⟨#[]⟩, .string ⟨#[]⟩, .int .i64 0, .slice none 0 0, .slice none 0 0] N ++ Builtin.zeroCells #[.string ⟨#[]⟩, .string ⟨#[]⟩, .string ⟨#[]⟩, .string ⟨#[]⟩, .int .i64 0, .slice none 0 0, .slice none 0 0] (G - N), rfl, Nat.le_refl _, ?_, Nat.zero_le _, hGm, ?_, ?_⟩⟩
    · show (w.heap.push _)[w.heap.size]? = _
      simp
    · rw [Array.size_append, size_zeroCells, size_zeroCells]
      show N * 7 + (G - N) * 7 = G * 7
      omega
    · simp

set_option maxHeartbeats 2000000 in
set_option maxRecDepth 100000 in
theorem concatP (g : Nat) (p q : Option Addr) (n m c d : Nat) (L M : List Value) (en : L.length = n * 7) (em : M.length = m * 7) (w : World) (h1 : w.cell? ⟨g, 0, none⟩ = some (.slice p n c)) (h2 : w.cell? ⟨g, 1, none⟩ = some (.slice q m d))
    (hL : Cells w p L) (hM : Cells w q M) (oL : ∀ u ∈ L, u.oneCell' = true) (oM : ∀ u ∈ M, u.oneCell' = true) (hp : p = none → n = 0 ∧ c = 0) (hq : q = none → m = 0 ∧ d = 0) (hn : n + m ≤ 50000) :
    Calls Tryd.prog 128 #[.slice (some ⟨g, 0, none⟩) 2 2] w fun e w' => Below w.heap.size w w' ∧ ∃ p' c', e = .returned (.slice p' (n + m) c') ∧ w'.ownsRow w.heap.size 65 7 (.slice p' (n + m) c') (n + m) (L ++ M) := by
  have hg : g < w.heap.size := World.block_lt_of_cell? w _ h1
  have HE : Hid (L.length = n * 7 ∧ M.length = m * 7) := ⟨en, em⟩
  have HL : Hid (Cells w p L) := hL
  have HM : Hid (Cells w q M) := hM
  have HP : Hid (p = none → n = 0 ∧ c = 0) := hp
  have HQ : Hid (q = none → m = 0 ∧ d = 0) := hq
  have HO : Hid ((∀ u ∈ L, u.oneCell' = true) ∧ (∀ u ∈ M, u.oneCell' = true)) := ⟨oL, oM⟩
  clear hL hM hp hq en em oL oM
  go_enter Tryd.func128, Tryd.ntmps128
  go_wp2
  refine wp_loop_rounds 3 ?_
  rw [rounds_succ]
  go_wp2
  rw [rounds_succ]
  go_wp2
  rw [rounds_succ]
  go_wp2_with fail
  refine (growNilP (n + m) _ (by omega) (by omega) _).mono ?_
  rintro e w1 ⟨hb1, p1, c1, rfl, hown1⟩
  have h1' : w1.cell? ⟨g, 0, none⟩ = some (.slice p n c) := (hb1.cell (p := ⟨g, 0, none⟩) hg).trans h1
  have h2' : w1.cell? ⟨g, 1, none⟩ = some (.slice q m d) := (hb1.cell (p := ⟨g, 1, none⟩) hg).trans h2
  have hL1 : Hid (Cells w1 p L) := HL.out.below hb1
  have hsz1 := hb1.size
  go_wp2
  refine wp_loop_rounds 3 ?_
  rw [rounds_succ]
  go_wp2_with (at_builtin; refine append_rowP rfl (.tmp 31) (.tmp 32) rfl w.heap.size _ _ _ rfl hown1 p L n c HE.out.1 rfl hL1.out HO.out.1 HP.out (by omega) hsz1 ?_)
  intro v2 w2 hown2 hg2
  have hb2 : Below w.heap.size w w2 := hb1.grown hg2 hsz1 fun j hj => (hown1.lt j hj).1
  have h2'' : w2.cell? ⟨g, 1, none⟩ = some (.slice q m d) := (hb2.cell (p := ⟨g, 1, none⟩) hg).trans h2
  have hM2 : Hid (Cells w2 q M) := HM.out.below hb2
  have hsz2 := hb2.size
  clear hg2 hown1 h1' h2' hL1 hb1
  go_wp2
  rw [rounds_succ]
  go_wp2_with (at_builtin; refine append_rowP rfl (.tmp 31) (.tmp 32) rfl w.heap.size _ _ _ rfl hown2 q M m d HE.out.2 rfl hM2.out HO.out.2 HQ.out (by omega) hsz2 ?_)
  intro v3 w3 hown3 hg3
  have hb3 : Below w.heap.size w w3 := hb2.grown hg3 hsz2 fun j hj => (hown2.lt j hj).1
  have R : Hid (w3.ownsRow w.heap.size 65 7 v3 (n + m) (L ++ M)) := by
    unfold Hid
    simpa using hown3
  obtain ⟨p3, c3, rfl⟩ := owned_slice R.out
  clear hg3 hown2 hown3 h2'' hM2 hb2
  go_wp2
  rw [rounds_succ]
  go_wp2
  go_ret
  exact ⟨hb3, p3, c3, rfl, R.out⟩
end Go.Proofs.YtehiaenicfmpbaaDoor

/- The law's small bundle. -/
namespace Go.Proofs.YtehiaenicfmpbaaDoor
open Go.RowKit

def bodyA : List UInt8 := [60, 97, 32, 104, 114, 101, 102, 61, 39, 99, 39, 62, 60, 105, 109, 103, 32, 83, 82, 67, 61, 99, 105, 100, 58, 120, 62, 60, 97, 32, 104, 114, 101, 102, 61, 35, 100, 62]
def partA : PT := ⟨⟨#[116, 101, 120, 116, 47, 104, 116, 109, 108]⟩, ⟨#[117, 116, 102, 45, 56]⟩, ⟨#[]⟩, ⟨#[]⟩, 2, bodyA, []⟩
def partB : PT := ⟨⟨#[105, 109, 97, 103, 101, 47, 112, 110, 103]⟩, ⟨#[]⟩, ⟨#[120]⟩, ⟨#[99]⟩, 1, [1, 2, 3], []⟩
def smallT : PT := ⟨⟨#[109, 117, 108, 116, 105, 112, 97, 114, 116, 47, 114, 101, 108, 97, 116, 101, 100]⟩, ⟨#[]⟩, ⟨#[]⟩, ⟨#[104, 116, 116, 112, 58, 47, 47, 104, 47, 97, 47, 98]⟩, 0, [], [partA, partB]⟩

theorem BRow_lit (w : World) (L : List UInt8) (C : Array Value) (hC : C = (bv L).toArray) (t : TypeId) (fr : Nat × Nat) (b : Nat) (hb : b = w.heap.size) : BRow (w.alloc (.cells C t fr)) (some ⟨b, 0, none⟩) L := by
  subst hC hb
  intro _
  refine ⟨w.heap.size, 0, rfl, fun i hi => ?_⟩
  rw [Nat.zero_add, World.cell?_alloc_mark w _ t fr i]
  simp [bv, List.getD_eq_getElem?_getD, List.getElem?_eq_getElem hi]

theorem cell_lits (w : World) (c : List Value) (t : TypeId) (b j k : Nat) (x : Value) (hb : b = w.heap.size) (hk : k = j) (h : c[j]? = some x) : (w.alloc (.cells c.toArray t)).cell? ⟨b, k, none⟩ = some x := by
  subst hk
  have := cell_seven w c t b hb k x h
  rwa [Addr.add_lit, Nat.zero_add] at this
theorem lens (p : PT) (h : (decide (p.ty.size ≤ 1000000) && decide (p.cs.size ≤ 1000000) && decide (p.id.size ≤ 1000000) && decide (p.loc.size ≤ 1000000) && decide (-1000 ≤ p.how) && decide (p.how ≤ 1000) && decide (p.body.length ≤ 1000000) && decide (p.kids.length ≤ 1000000)) = true) : PLen p := by
  simp only [Bool.and_eq_true, decide_eq_true_eq] at h
  obtain ⟨⟨⟨⟨⟨⟨⟨a, b⟩, c⟩, d⟩, e⟩, f⟩, g⟩, k⟩ := h
  unfold PLen maxLen
  omega

theorem kc_at (w : World) (X : Obj) (C : Array Value) (n c : Nat) : (convert 22 22 (.slice (some ⟨w.heap.size + 1, 0, none⟩) n c)).run Tryd.prog ((w.alloc X).alloc (.cells C 5)) = .ok (.slice (some ⟨w.heap.size + 1, 0, none⟩) n c) ((w.alloc X).alloc (.cells C 5 (C.size, C.size + 1))) := by
  have h := Lib.run_convert_bytes_const (P := Tryd.prog) (w.alloc X) 22 5 C n c Tryd.underlying22 Tryd.underlying5
  rw [World.size_alloc] at h
  exact h

set_option maxHeartbeats 1000000 in
set_option maxRecDepth 100000 in
theorem psmall_any (w : World) : Calls Tryd.prog 124 #[] w fun e w' => ∃ g, e = .returned (.agg #[.string smallT.ty, .string smallT.cs, .string smallT.id, .string smallT.loc, .int .i64 smallT.how, .slice none smallT.body.length 0, .slice (some ⟨g, 0, none⟩) smallT.kids.length 2]) ∧ PHeld w' 1 smallT none 0 (some ⟨g, 0, none⟩) 2 ∧ Below w.heap.size w w' := by
  have kc := fun (X : Obj) (C : Array Value) (n c : Nat) => kc_at w X C n c
  go_enter Tryd.func124, Tryd.ntmps124
  go_wp2
  (try simp only [Exit.inBlock, Exit.then])
  refine bodyPost_ret (v := .agg #[.string smallT.ty, .string smallT.cs, .string smallT.id, .string smallT.loc, .int .i64 smallT.how, .slice none smallT.body.length 0, .slice (some ⟨w.heap.size + 1 + 1 + 1, 0, none⟩) smallT.kids.length 2]) ?_ rfl ⟨_, rfl, ?_, ?_⟩
  · refine results_cell_row rfl _ _ w.heap.size 65 _ (0, 0) _ rfl ?_ Tryd.underlying65 rfl (by kernel_rfl)
    exact (Below.heap_alloc _ _ _ (by simp; omega)).trans ((Below.heap_alloc _ _ _ (by simp; omega)).trans ((Below.heap_alloc _ _ _ (by simp)).trans (heap_alloc_new w _)))
  · have hA := BRow_lit (w.alloc (.cells #[.string smallT.ty, .string smallT.cs, .string smallT.id, .string smallT.loc, .int .i64 smallT.how, .slice none 0 0, .slice (some ⟨w.heap.size + 1 + 1 + 1, 0, none⟩) 2 2] 65)) bodyA _ rfl 5 (38, 39) (w.heap.size + 1) (by simp)
    have hB := BRow_lit ((w.alloc (.cells #[.string smallT.ty, .string smallT.cs, .string smallT.id, .string smallT.loc, .int .i64 smallT.how, .slice none 0 0, .slice (some ⟨w.heap.size + 1 + 1 + 1, 0, none⟩) 2 2] 65)).alloc (.cells (bv bodyA).toArray 5 (38, 39))) [1, 2, 3] _ rfl 5 (0, 0) (w.heap.size + 1 + 1) (by simp)
    refine ⟨lens _ (by decide), ⟨by decide, by decide, fun _ => rfl⟩, fun h => absurd rfl h, ⟨by decide, by decide, fun h => by cases h⟩, KAt.mk fun i hi => ?_⟩
    have hi2 : i < 2 := hi
    match i, hi2 with
    | 0, _ =>
      refine ⟨some ⟨w.heap.size + 1, 0, none⟩, 38, none, 0, ⟨?_, ?_, ?_, ?_, ?_, ?_, ?_⟩, lens _ (by decide), ⟨by decide, by decide, fun h => by cases h⟩, ?_, ⟨by decide, by decide, fun _ => rfl⟩, rfl⟩
      · exact cell_lits _ _ _ _ 0 _ _ (by simp) rfl rfl
      · exact cell_lits _ _ _ _ 1 _ _ (by simp) rfl rfl
      · exact cell_lits _ _ _ _ 2 _ _ (by simp) rfl rfl
      · exact cell_lits _ _ _ _ 3 _ _ (by simp) rfl rfl
      · exact cell_lits _ _ _ _ 4 _ _ (by simp) rfl rfl
      · exact cell_lits _ _ _ _ 5 _ _ (by simp) rfl rfl
      · exact cell_lits _ _ _ _ 6 _ _ (by simp) rfl rfl
      · exact hA.under (((Below.refl _ _).alloc (Nat.le_refl _) _).alloc (by simp) _)
    | 1, _ =>
      refine ⟨some ⟨w.heap.size + 1 + 1, 0, none⟩, 3, none, 0, ⟨?_, ?_, ?_, ?_, ?_, ?_, ?_⟩, lens _ (by decide), ⟨by decide, by decide, fun h => by cases h⟩, ?_, ⟨by decide, by decide, fun _ => rfl⟩, rfl⟩
      · exact cell_lits _ _ _ _ 7 _ _ (by simp) rfl rfl
      · exact cell_lits _ _ _ _ 8 _ _ (by simp) rfl rfl
      · exact cell_lits _ _ _ _ 9 _ _ (by simp) rfl rfl
      · exact cell_lits _ _ _ _ 10 _ _ (by simp) rfl rfl
      · exact cell_lits _ _ _ _ 11 _ _ (by simp) rfl rfl
      · exact cell_lits _ _ _ _ 12 _ _ (by simp) rfl rfl
      · exact cell_lits _ _ _ _ 13 _ _ (by simp) rfl rfl
      · exact hB.under ((Below.refl _ _).alloc (Nat.le_refl _) _)
  · exact ((((Below.refl _ w).alloc (Nat.le_refl _) _).alloc (by simp) _).alloc (by simp; omega) _).alloc (by simp; omega) _
end Go.Proofs.YtehiaenicfmpbaaDoor

/- What a part that came in reads as: a part that lies in memory. -/
namespace Go.Proofs.YtehiaenicfmpbaaDoor
open Go.ChangeShapes Go.WideShapes Go.ChangeAt Go.RowKit

theorem KAt.up {w : World} : ∀ (f : Nat) (a : Option Addr) (l : List PT), KAt w f a l → KAt w (f + 1) a l
  | 0, a, l, h => fun hne => absurd h hne
  | f + 1, a, l, h => fun hne => by
    obtain ⟨b, o, e, hc⟩ := h hne
    refine ⟨b, o, e, fun i hi => ?_⟩
    obtain ⟨pb, cb, pk, ck, h1, h2⟩ := hc i hi
    exact ⟨pb, cb, pk, ck, h1, h2.1, h2.2.1, h2.2.2.1, h2.2.2.2.1, KAt.up f _ _ h2.2.2.2.2⟩

theorem part_under : ∃ f0 f1 f2 f3 f4 f5 f6 : Field, Tryd.prog.underlying 65 = some (.struct #[f0, f1, f2, f3, f4, f5, f6]) ∧
    (f0.offset = 0 ∧ f1.offset = 1 ∧ f2.offset = 2 ∧ f3.offset = 3 ∧ f4.offset = 4 ∧ f5.offset = 5 ∧ f6.offset = 6) ∧
    (f0.type = 9 ∧ f1.type = 9 ∧ f2.type = 9 ∧ f3.type = 9 ∧ f4.type = 3 ∧ f5.type = 22 ∧ f6.type = 63) :=
  ⟨_, _, _, _, _, _, _, Tryd.underlying65, ⟨rfl, rfl, rfl, rfl, rfl, rfl, rfl⟩, ⟨rfl, rfl, rfl, rfl, rfl, rfl, rfl⟩⟩

/-- The bytes of a slice that came in. -/
theorem bytes_open {H : Type} {enc : TypeId × Value → H} {W : World} {held : Bool} {fuel : Nat} {cs : List Value} {x : DataW H × List MemPlace}
    (h : DataW.trod enc Tryd.prog W 0 (fun _ => true) held fuel 22 cs = some x) :
    ∃ (a : Option Addr) (c : Nat) (L : List UInt8), cs = [.slice a L.length c] ∧ L.length ≤ c ∧ c ≤ maxLen ∧ (a = none → c = 0) ∧ BRow W a L := by
  rcases open_ints Tryd.underlying22 Tryd.underlying5 (by kernel_rfl) h with ⟨hcs, _⟩ | ⟨a, l, c, zs, hcs, _, hl, hm, hz, _, hcell, hwz⟩
  · exact ⟨none, 0, [], hcs, Nat.le_refl _, by decide, fun _ => rfl, fun h => absurd rfl h⟩
  · obtain ⟨L, e, h1, h2, h3, h4⟩ := isRow_bytes (w := W) (a := some a) (len := l) (cap := c) (zs := zs) (.inr ⟨_, rfl, hl, hm, by simpa using hz, hcell, hwz⟩)
    subst e
    exact ⟨some a, c, L, hcs, h1, h2, (fun h => by cases h), h4⟩

set_option maxRecDepth 100000 in
/-- A part that came in, cell by cell. -/
theorem part_cells {H : Type} {enc : TypeId × Value → H} {W : World} {held : Bool} : ∀ (fuel : Nat) (cs : List Value) (x : DataW H × List MemPlace),
    DataW.trod enc Tryd.prog W 0 (fun _ => true) held fuel 65 cs = some x →
    ∃ (p : PT) (pb : Option Addr) (cb : Nat) (pk : Option Addr) (ck : Nat), cs = [.string p.ty, .string p.cs, .string p.id, .string p.loc, .int .i64 p.how, .slice pb p.body.length cb, .slice pk p.kids.length ck] ∧ PHeld W fuel p pb cb pk ck := by
  intro fuel
  induction fuel using Nat.strongRecOn with
  | _ fuel ih =>
    intro cs x h
    obtain ⟨f0, f1, f2, f3, f4, f5, f6, hu, ⟨o0, o1, o2, o3, o4, o5, o6⟩, ⟨t0, t1, t2, t3, t4, t5, t6⟩⟩ := part_under
    obtain ⟨xs, n, hfu, _, hlen, hxl, hf⟩ := DataW.trod_struct hu h
    have hcf : Tryd.prog.cellsOf 65 = 7 := by kernel_rfl
    have cs1 : Tryd.prog.cellsOf 9 = 1 := by kernel_rfl
    have ci1 : Tryd.prog.cellsOf 3 = 1 := by kernel_rfl
    have cb1 : Tryd.prog.cellsOf 22 = 1 := by kernel_rfl
    have cp1 : Tryd.prog.cellsOf 63 = 1 := by kernel_rfl
    rw [hcf] at hlen
    match xs, hxl, cs, hlen with
    | [y0, y1, y2, y3, y4, y5, y6], _, [v0, v1, v2, v3, v4, v5, v6], _ =>
      have g0 := hf 0 f0 rfl
      have g1 := hf 1 f1 rfl
      have g2 := hf 2 f2 rfl
      have g3 := hf 3 f3 rfl
      have g4 := hf 4 f4 rfl
      have g5 := hf 5 f5 rfl
      have g6 := hf 6 f6 rfl
      rw [t0, o0, cs1] at g0
      rw [t1, o1, cs1] at g1
      rw [t2, o2, cs1] at g2
      rw [t3, o3, cs1] at g3
      rw [t4, o4, ci1] at g4
      rw [t5, o5, cb1] at g5
      rw [t6, o6, cp1] at g6
      simp only [List.drop_zero, List.drop_succ_cons, List.take_succ_cons, List.take_zero, List.getElem?_cons_zero, List.getElem?_cons_succ] at g0 g1 g2 g3 g4 g5 g6
      obtain ⟨s0, e0, _, l0⟩ := DataW.trod_string Tryd.underlying9 g0
      obtain ⟨s1, e1, _, l1⟩ := DataW.trod_string Tryd.underlying9 g1
      obtain ⟨s2, e2, _, l2⟩ := DataW.trod_string Tryd.underlying9 g2
      obtain ⟨s3, e3, _, l3⟩ := DataW.trod_string Tryd.underlying9 g3
      obtain ⟨z, e4, _, hz⟩ := DataW.trod_int Tryd.underlying3 g4
      obtain ⟨pb, cb, body, e5, b1, b2, b3, b4⟩ := bytes_open g5
      have hz2 : -9223372036854775808 ≤ z ∧ z ≤ 9223372036854775807 := by
        simp only [Lit.wf, Bool.and_eq_true, decide_eq_true_eq] at hz
        exact hz
      have hbl : body.length ≤ maxLen := Nat.le_trans b1 b2
      rcases DataW.trod_slice Tryd.underlying63 g6 with ⟨e6, _⟩ | ⟨a, len, cap, elems, rest, m, hm, e6, _, _, hlc, hcm, hel, hev, _, _⟩
      · refine ⟨⟨s0, s1, s2, s3, z, body, []⟩, pb, cb, none, 0, ?_, ⟨l0, l1, l2, l3, hz2.1, hz2.2, hbl, Nat.zero_le _⟩, ⟨b1, b2, b3⟩, b4, ⟨Nat.le_refl _, by decide, fun _ => rfl⟩, KAt.nil _ _ _⟩
        rw [(List.cons.inj e0).1, (List.cons.inj e1).1, (List.cons.inj e2).1, (List.cons.inj e3).1, (List.cons.inj e4).1, (List.cons.inj e5).1, (List.cons.inj e6).1]
        rfl
      · have hspot : 0 < len → a.spot = none := fun hpos => by
          have h1 := hev 0 hpos
          rw [hcf, List.getElem?_eq_getElem (by omega)] at h1
          obtain ⟨ce, hce, hte⟩ := Option.bind_eq_some_iff.1 h1
          obtain ⟨q, qb, qc, qk, qd, e, hq⟩ := ih m (by omega) ce _ hte
          obtain ⟨_, _, hcc⟩ := World.cells?_some hce
          subst e
          have := hcc 0 (by omega)
          simpa [Addr.add] using World.cell?_spot (this.trans rfl)
        have each : ∀ i, i < len → ∃ q : PT, PAt W m a.block (a.off + i * 7) q := fun i hi => by
          have h1 := hev i hi
          rw [hcf, List.getElem?_eq_getElem (by omega)] at h1
          obtain ⟨ce, hce, hte⟩ := Option.bind_eq_some_iff.1 h1
          obtain ⟨q, qb, qc, qk, qd, e, hq⟩ := ih m (by omega) ce _ hte
          obtain ⟨_, _, hcc⟩ := World.cells?_some hce
          subst e
          have hs := hspot (by omega)
          obtain ⟨b, o, spot⟩ := a
          simp only at hs
          subst hs
          refine ⟨q, qb, qc, qk, qd, ?_, hq⟩
          have hc : ∀ j, j < 7 → W.cell? ⟨b, o + i * 7 + j, none⟩ = [Value.string q.ty, .string q.cs, .string q.id, .string q.loc, .int .i64 q.how, .slice qb q.body.length qc, .slice qk q.kids.length qd][j]? := fun j hj => by
            have := hcc j hj
            rw [Addr.add_lit, Addr.add_lit] at this
            exact this
          exact ⟨hc 0 (by omega), hc 1 (by omega), hc 2 (by omega), hc 3 (by omega), hc 4 (by omega), hc 5 (by omega), hc 6 (by omega)⟩
        haveI : Inhabited PT := ⟨pt0⟩
        obtain ⟨Q, hQ⟩ := Go.Deep.choose_lt each
        refine ⟨⟨s0, s1, s2, s3, z, body, (List.range len).map Q⟩, pb, cb, some a, cap, ?_, ⟨l0, l1, l2, l3, hz2.1, hz2.2, hbl, ?_⟩, ⟨b1, b2, b3⟩, b4, ⟨?_, hcm, fun h => by cases h⟩, ?_⟩
        · rw [(List.cons.inj e0).1, (List.cons.inj e1).1, (List.cons.inj e2).1, (List.cons.inj e3).1, (List.cons.inj e4).1, (List.cons.inj e5).1, (List.cons.inj e6).1]
          simp
        · simp; exact Nat.le_trans hlc hcm
        · simp; exact hlc
        · rw [hfu, hm]
          refine KAt.up _ _ _ fun hne => ?_
          have hpos : 0 < len := by
            rcases Nat.eq_zero_or_pos len with e | e
            · subst e; exact absurd rfl hne
            · exact e
          have hs := hspot hpos
          obtain ⟨b, o, spot⟩ := a
          simp only at hs
          subst hs
          refine ⟨b, o, rfl, fun i hi => ?_⟩
          have hi' : i < len := by simpa using hi
          have e1 : ((List.range len).map Q).getD i pt0 = Q i := by simp [List.getD_eq_getElem?_getD, hi']
          show PAt W m b (o + i * 7) (((List.range len).map Q).getD i pt0)
          rw [e1]
          exact hQ i hi'

set_option maxRecDepth 100000 in
/-- A part that came in by value. -/
theorem part_open {H : Type} {enc : TypeId × Value → H} {W : World} {base : Nat} {held : Bool} {fuel : Nat} {v : Value} {x : DataW H × List MemPlace}
    (hv : Value.okWide Tryd.prog W .any base 65 v) (h : DataW.trod enc Tryd.prog W 0 (fun _ => true) held fuel 65 v.cells.toList = some x) :
    ∃ (p : PT) (pb : Option Addr) (cb : Nat) (pk : Option Addr) (ck F : Nat), v = .agg #[.string p.ty, .string p.cs, .string p.id, .string p.loc, .int .i64 p.how, .slice pb p.body.length cb, .slice pk p.kids.length ck] ∧ PHeld W F p pb cb pk ck := by
  obtain ⟨cs, rfl, hsz⟩ := okWide_struct Tryd.underlying65 hv
  obtain ⟨p, pb, cb, pk, ck, e, hp⟩ := part_cells fuel _ x h
  refine ⟨p, pb, cb, pk, ck, fuel, ?_, hp⟩
  congr 1
  apply Array.toList_inj.1
  exact e
end Go.Proofs.YtehiaenicfmpbaaDoor

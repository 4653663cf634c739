/- Rows of cells. No function of the program. -/
import Derived.Test.YtlndhdimamnnlaaGreatDoorXmimewrapsupto11
import Derived.Deep.SlicePairs
import Derived.Test.YtlndhdimamnnlaaGreatDoorXmimewrapsupto6
import Derived.ChangeSlices
import Derived.Test.YtlndhdimamnnlaaGreatDoorXmimewrapsupto14
namespace Go.Proofs.YtlndhdimamnnlaaGreatDoor
open Go.RowKit

/-- These values lie behind the address, a cell each. -/
def Cells (w : World) (p : Option Addr) (l : List Value) : Prop := l ≠ [] → ∃ b o, p = some ⟨b, o, none⟩ ∧ ∀ j u, l[j]? = some u → w.cell? ⟨b, o + j, none⟩ = some u
theorem Cells.below {w w' : World} {p : Option Addr} {l : List Value} (h : Cells w p l) (hb : Below w.heap.size w w') : Cells w' p l := by
  intro hne
  obtain ⟨b, o, rfl, hc⟩ := h hne
  refine ⟨b, o, rfl, fun j u hj => ?_⟩
  have := hc j u hj
  rw [hb.cell (p := ⟨b, o + j, none⟩) (World.block_lt_of_cell? w _ this)]
  exact this
theorem Cells.ints {w : World} {q : Option Addr} {l : List Int} (h : IRow w q l) : Cells w q (izv l) := by
  intro hne
  have hl : l ≠ [] := fun e => hne (by rw [e]; rfl)
  obtain ⟨b, o, rfl, hc⟩ := h hl
  refine ⟨b, o, rfl, fun j u hj => ?_⟩
  have hjl : j < l.length := by
    have := (List.getElem?_eq_some_iff.1 hj).1
    simpa [izv] using this
  rw [hc j hjl]
  simp [izv, hjl] at hj
  rw [← hj]
  simp [List.getD_eq_getElem?_getD, List.getElem?_eq_getElem hjl]
theorem izv_one (l : List Int) : ∀ u ∈ izv l, u.oneCell' = true := by
  intro u hu
  simp only [izv, List.mem_map] at hu
  obtain ⟨c, _, rfl⟩ := hu
  rfl
/-- Parts with where their bodies and parts lie. -/
abbrev PZ := PT × (Option Addr × Nat) × (Option Addr × Nat)
def pzc (z : PZ) : List Value := [.string z.1.ty, .string z.1.cs, .string z.1.id, .string z.1.loc, .int .i64 z.1.how, .slice z.2.1.1 z.1.body.length z.2.1.2, .slice z.2.2.1 z.1.kids.length z.2.2.2]
def pzv (Z : List PZ) : List Value := Z.flatMap pzc
theorem pzv_append (Y Z : List PZ) : pzv (Y ++ Z) = pzv Y ++ pzv Z := by simp [pzv]
theorem pzv_length : ∀ Z : List PZ, (pzv Z).length = Z.length * 7
  | [] => rfl
  | z :: Z => by show (pzc z ++ pzv Z).length = _; rw [List.length_append, pzv_length Z]; simp [pzc]; omega
theorem pzv_one (Z : List PZ) : ∀ u ∈ pzv Z, u.oneCell' = true := by
  intro u hu
  simp only [pzv, List.mem_flatMap] at hu
  obtain ⟨z, _, hz⟩ := hu
  simp only [pzc, List.mem_cons, List.not_mem_nil, or_false] at hz
  rcases hz with rfl | rfl | rfl | rfl | rfl | rfl | rfl <;> rfl
theorem pz_at (Z : List PZ) (k : Nat) (z : PZ) (h : Z[k]? = some z) (j : Nat) (v : Value) (hj : (pzc z)[j]? = some v) : (pzv Z)[k * 7 + j]? = some v := by
  have hj7 : j < 7 := by have := (List.getElem?_eq_some_iff.1 hj).1; simpa [pzc] using this
  induction Z generalizing k with
  | nil => simp at h
  | cons y Z ih =>
    show (pzc y ++ pzv Z)[k * 7 + j]? = some v
    cases k with
    | zero =>
      obtain rfl := Option.some.inj h
      rw [List.getElem?_append_left (by simp [pzc]; omega), Nat.zero_mul, Nat.zero_add]
      exact hj
    | succ k =>
      rw [List.getElem?_append_right (by simp [pzc]; omega)]
      have := ih k (by simpa using h)
      rw [← this]
      congr 1
      simp [pzc]
      omega
theorem pz_back : ∀ (Z : List PZ) (j : Nat) (v : Value), (pzv Z)[j]? = some v → ∃ z, Z[j / 7]? = some z ∧ (pzc z)[j % 7]? = some v
  | [], j, v, h => by simp [pzv] at h
  | y :: Z, j, v, h => by
    have h' : (pzc y ++ pzv Z)[j]? = some v := h
    by_cases hj : j < 7
    · rw [List.getElem?_append_left (by simp [pzc]; omega)] at h'
      exact ⟨y, by rw [Nat.div_eq_of_lt hj]; rfl, by rw [Nat.mod_eq_of_lt hj]; exact h'⟩
    · rw [List.getElem?_append_right (by simp [pzc]; omega)] at h'
      obtain ⟨z, h1, h2⟩ := pz_back Z (j - 7) v (by simpa [pzc] using h')
      refine ⟨z, ?_, ?_⟩
      · rw [show j / 7 = (j - 7) / 7 + 1 from by omega]; exact h1
      · rw [show j % 7 = (j - 7) % 7 from by omega]; exact h2

/-- Parts that lie there, with where all lies. -/
theorem KAt.list {w : World} {f : Nat} {a : Option Addr} {l : List PT} (h : KAt w (f + 1) a l) : ∃ Z : List PZ, Z.map (·.1) = l ∧ Cells w a (pzv Z) ∧ ∀ z ∈ Z, PHeld w f z.1 z.2.1.1 z.2.1.2 z.2.2.1 z.2.2.2 := by
  by_cases hne : l = []
  · subst hne
    exact ⟨[], rfl, fun h => absurd rfl h, fun z hz => by cases hz⟩
  · obtain ⟨b, o, rfl, hc⟩ := h.each hne
    have each : ∀ i, i < l.length → ∃ z : PZ, z.1 = l.getD i pt0 ∧ PCells w b (o + i * 7) z.1 z.2.1.1 z.2.1.2 z.2.2.1 z.2.2.2 ∧ PHeld w f z.1 z.2.1.1 z.2.1.2 z.2.2.1 z.2.2.2 := fun i hi => by
      obtain ⟨pb, cb, pk, ck, h1, h2⟩ := hc i hi
      exact ⟨(_, (pb, cb), (pk, ck)), rfl, h1, h2⟩
    haveI : Inhabited PZ := ⟨(pt0, (none, 0), (none, 0))⟩
    obtain ⟨Q, hQ⟩ := Go.Deep.choose_lt each
    refine ⟨(List.range l.length).map Q, ?_, fun _ => ⟨b, o, rfl, fun j u hj => ?_⟩, fun z hz => ?_⟩
    · apply List.ext_getElem (by simp)
      intro i h1 h2
      simp only [List.getElem_map, List.getElem_range]
      rw [(hQ i h2).1, List.getD_eq_getElem?_getD, List.getElem?_eq_getElem h2]
      rfl
    · obtain ⟨z, hz, hv⟩ := pz_back _ j u hj
      have hl := (List.getElem?_eq_some_iff.1 hz).1
      have hl' : j / 7 < l.length := by simpa using hl
      have ez : z = Q (j / 7) := by
        rw [List.getElem?_map, List.getElem?_range hl'] at hz
        exact (Option.some.inj hz).symm
      obtain ⟨_, hC, _⟩ := hQ (j / 7) hl'
      rw [← ez] at hC
      obtain ⟨c0, c1, c2, c3, c4, c5, c6⟩ := hC
      have hm : j % 7 < 7 := Nat.mod_lt _ (by decide)
      rw [show o + j = o + j / 7 * 7 + j % 7 from by omega]
      generalize j % 7 = r at *
      match r, hm with
      | 0, _ => obtain rfl := Option.some.inj hv; exact c0
      | 1, _ => obtain rfl := Option.some.inj hv; exact c1
      | 2, _ => obtain rfl := Option.some.inj hv; exact c2
      | 3, _ => obtain rfl := Option.some.inj hv; exact c3
      | 4, _ => obtain rfl := Option.some.inj hv; exact c4
      | 5, _ => obtain rfl := Option.some.inj hv; exact c5
      | 6, _ => obtain rfl := Option.some.inj hv; exact c6
    · obtain ⟨i, hi, rfl⟩ := List.mem_map.1 hz
      exact (hQ i (by simpa using hi)).2.2
/-- Such cells are parts that lie there. -/
theorem KAt.of_list {w : World} {f : Nat} {a : Option Addr} {Z : List PZ} (hc : Cells w a (pzv Z)) (hh : ∀ z ∈ Z, PHeld w f z.1 z.2.1.1 z.2.1.2 z.2.2.1 z.2.2.2) : KAt w (f + 1) a (Z.map (·.1)) := by
  intro hne
  have hZ : Z ≠ [] := fun e => hne (by rw [e]; rfl)
  obtain ⟨b, o, e, hcc⟩ := hc (fun e => by have := pzv_length Z; rw [e] at this; cases Z with | nil => exact hZ rfl | cons a l => simp at this)
  refine ⟨b, o, e, fun i hi => ?_⟩
  have hi' : i < Z.length := by simpa using hi
  have ez : (Z.map (·.1)).getD i pt0 = Z[i].1 := by simp [List.getD_eq_getElem?_getD, hi']
  have hz : Z[i]? = some Z[i] := List.getElem?_eq_getElem hi'
  have cell : ∀ j v, (pzc Z[i])[j]? = some v → w.cell? ⟨b, o + i * 7 + j, none⟩ = some v := fun j v hj => by
    have := hcc (i * 7 + j) v (pz_at Z i Z[i] hz j v hj)
    rwa [← Nat.add_assoc] at this
  rw [ez]
  exact ⟨Z[i].2.1.1, Z[i].2.1.2, Z[i].2.2.1, Z[i].2.2.2, ⟨cell 0 _ rfl, cell 1 _ rfl, cell 2 _ rfl, cell 3 _ rfl, cell 4 _ rfl, cell 5 _ rfl, cell 6 _ rfl⟩, hh _ (List.getElem_mem hi')⟩
theorem owned_cells {w : World} {B e s n : Nat} {v : Value} {xs : List Value} (h : w.ownsRow B e s v n xs) : ∃ p c, v = .slice p n c ∧ n ≤ c ∧ c ≤ maxLen ∧ (p = none → n = 0 ∧ c = 0) ∧ Cells w p xs := by
  have h' := h
  rcases h.2 with ⟨rfl, h0⟩ | ⟨g, cap, cur, rfl, hg, hh, hnc, hcp, hcs, htake⟩
  · refine ⟨none, 0, by rw [h0], by omega, by decide, fun _ => ⟨h0, rfl⟩, fun hne => ?_⟩
    have hx := h.1
    rw [h0, Nat.zero_mul] at hx
    exact absurd (List.length_eq_zero_iff.1 hx) hne
  · refine ⟨some ⟨g, 0, none⟩, cap, rfl, hnc, hcp, fun e => (by cases e), fun _ => ⟨g, 0, rfl, fun j u hj => ?_⟩⟩
    have hjl := (List.getElem?_eq_some_iff.1 hj).1
    rw [Nat.zero_add, h'.cellAt j (by rw [← h'.1]; exact hjl), hj]
end Go.Proofs.YtlndhdimamnnlaaGreatDoor

/- What a part that came in reads as: a part that lies in memory. -/
namespace Go.Proofs.YtlndhdimamnnlaaGreatDoor
open Go.ChangeShapes Go.WideShapes Go.ChangeAt Go.RowKit

theorem KAt.up {w : World} : ∀ (f : Nat) (a : Option Addr) (l : List PT), KAt w f a l → KAt w (f + 1) a l
  | 0, a, l, h => fun hne => absurd h hne
  | f + 1, a, l, h => fun hne => by
    obtain ⟨b, o, e, hc⟩ := h hne
    refine ⟨b, o, e, fun i hi => ?_⟩
    obtain ⟨pb, cb, pk, ck, h1, h2⟩ := hc i hi
    exact ⟨pb, cb, pk, ck, h1, h2.1, h2.2.1, h2.2.2.1, h2.2.2.2.1, KAt.up f _ _ h2.2.2.2.2⟩

theorem part_under : ∃ f0 f1 f2 f3 f4 f5 f6 : Field, Tryz.prog.underlying 25 = some (.struct #[f0, f1, f2, f3, f4, f5, f6]) ∧
    (f0.offset = 0 ∧ f1.offset = 1 ∧ f2.offset = 2 ∧ f3.offset = 3 ∧ f4.offset = 4 ∧ f5.offset = 5 ∧ f6.offset = 6) ∧
    (f0.type = 9 ∧ f1.type = 9 ∧ f2.type = 9 ∧ f3.type = 9 ∧ f4.type = 3 ∧ f5.type = 22 ∧ f6.type = 23) :=
  ⟨_, _, _, _, _, _, _, Tryz.underlying25, ⟨rfl, rfl, rfl, rfl, rfl, rfl, rfl⟩, ⟨rfl, rfl, rfl, rfl, rfl, rfl, rfl⟩⟩

/-- The bytes of a slice that came in. -/
theorem bytes_open {H : Type} {enc : TypeId × Value → H} {W : World} {held : Bool} {fuel : Nat} {cs : List Value} {x : DataW H × List MemPlace}
    (h : DataW.trod enc Tryz.prog W 0 (fun _ => true) held fuel 22 cs = some x) :
    ∃ (a : Option Addr) (c : Nat) (L : List UInt8), cs = [.slice a L.length c] ∧ L.length ≤ c ∧ c ≤ maxLen ∧ (a = none → c = 0) ∧ BRow W a L := by
  rcases open_ints Tryz.underlying22 Tryz.underlying5 (by kernel_rfl) h with ⟨hcs, _⟩ | ⟨a, l, c, zs, hcs, _, hl, hm, hz, _, hcell, hwz⟩
  · exact ⟨none, 0, [], hcs, Nat.le_refl _, by decide, fun _ => rfl, fun h => absurd rfl h⟩
  · obtain ⟨L, e, h1, h2, h3, h4⟩ := isRow_bytes (w := W) (a := some a) (len := l) (cap := c) (zs := zs) (.inr ⟨_, rfl, hl, hm, by simpa using hz, hcell, hwz⟩)
    subst e
    exact ⟨some a, c, L, hcs, h1, h2, (fun h => by cases h), h4⟩

set_option maxRecDepth 100000 in
/-- A part that came in, cell by cell. -/
theorem part_cells {H : Type} {enc : TypeId × Value → H} {W : World} {held : Bool} : ∀ (fuel : Nat) (cs : List Value) (x : DataW H × List MemPlace),
    DataW.trod enc Tryz.prog W 0 (fun _ => true) held fuel 25 cs = some x →
    ∃ (p : PT) (pb : Option Addr) (cb : Nat) (pk : Option Addr) (ck : Nat), cs = [.string p.ty, .string p.cs, .string p.id, .string p.loc, .int .i64 p.how, .slice pb p.body.length cb, .slice pk p.kids.length ck] ∧ PHeld W fuel p pb cb pk ck := by
  intro fuel
  induction fuel using Nat.strongRecOn with
  | _ fuel ih =>
    intro cs x h
    obtain ⟨f0, f1, f2, f3, f4, f5, f6, hu, ⟨o0, o1, o2, o3, o4, o5, o6⟩, ⟨t0, t1, t2, t3, t4, t5, t6⟩⟩ := part_under
    obtain ⟨xs, n, hfu, _, hlen, hxl, hf⟩ := DataW.trod_struct hu h
    have hcf : Tryz.prog.cellsOf 25 = 7 := by kernel_rfl
    have cs1 : Tryz.prog.cellsOf 9 = 1 := by kernel_rfl
    have ci1 : Tryz.prog.cellsOf 3 = 1 := by kernel_rfl
    have cb1 : Tryz.prog.cellsOf 22 = 1 := by kernel_rfl
    have cp1 : Tryz.prog.cellsOf 23 = 1 := by kernel_rfl
    rw [hcf] at hlen
    match xs, hxl, cs, hlen with
    | [y0, y1, y2, y3, y4, y5, y6], _, [v0, v1, v2, v3, v4, v5, v6], _ =>
      have g0 := hf 0 f0 rfl
      have g1 := hf 1 f1 rfl
      have g2 := hf 2 f2 rfl
      have g3 := hf 3 f3 rfl
      have g4 := hf 4 f4 rfl
      have g5 := hf 5 f5 rfl
      have g6 := hf 6 f6 rfl
      rw [t0, o0, cs1] at g0
      rw [t1, o1, cs1] at g1
      rw [t2, o2, cs1] at g2
      rw [t3, o3, cs1] at g3
      rw [t4, o4, ci1] at g4
      rw [t5, o5, cb1] at g5
      rw [t6, o6, cp1] at g6
      simp only [List.drop_zero, List.drop_succ_cons, List.take_succ_cons, List.take_zero, List.getElem?_cons_zero, List.getElem?_cons_succ] at g0 g1 g2 g3 g4 g5 g6
      obtain ⟨s0, e0, _, l0⟩ := DataW.trod_string Tryz.underlying9 g0
      obtain ⟨s1, e1, _, l1⟩ := DataW.trod_string Tryz.underlying9 g1
      obtain ⟨s2, e2, _, l2⟩ := DataW.trod_string Tryz.underlying9 g2
      obtain ⟨s3, e3, _, l3⟩ := DataW.trod_string Tryz.underlying9 g3
      obtain ⟨z, e4, _, hz⟩ := DataW.trod_int Tryz.underlying3 g4
      obtain ⟨pb, cb, body, e5, b1, b2, b3, b4⟩ := bytes_open g5
      have hz2 : -9223372036854775808 ≤ z ∧ z ≤ 9223372036854775807 := by
        simp only [Lit.wf, Bool.and_eq_true, decide_eq_true_eq] at hz
        exact hz
      have hbl : body.length ≤ maxLen := Nat.le_trans b1 b2
      rcases DataW.trod_slice Tryz.underlying23 g6 with ⟨e6, _⟩ | ⟨a, len, cap, elems, rest, m, hm, e6, _, _, hlc, hcm, hel, hev, _, _⟩
      · refine ⟨⟨s0, s1, s2, s3, z, body, []⟩, pb, cb, none, 0, ?_, ⟨l0, l1, l2, l3, hz2.1, hz2.2, hbl, Nat.zero_le _⟩, ⟨b1, b2, b3⟩, b4, ⟨Nat.le_refl _, by decide, fun _ => rfl⟩, KAt.nil _ _ _⟩
        rw [(List.cons.inj e0).1, (List.cons.inj e1).1, (List.cons.inj e2).1, (List.cons.inj e3).1, (List.cons.inj e4).1, (List.cons.inj e5).1, (List.cons.inj e6).1]
        rfl
      · have hspot : 0 < len → a.spot = none := fun hpos => by
          have h1 := hev 0 hpos
          rw [hcf, List.getElem?_eq_getElem (by omega)] at h1
          obtain ⟨ce, hce, hte⟩ := Option.bind_eq_some_iff.1 h1
          obtain ⟨q, qb, qc, qk, qd, e, hq⟩ := ih m (by omega) ce _ hte
          obtain ⟨_, _, hcc⟩ := World.cells?_some hce
          subst e
          have := hcc 0 (by omega)
          simpa [Addr.add] using World.cell?_spot (this.trans rfl)
        have each : ∀ i, i < len → ∃ q : PT, PAt W m a.block (a.off + i * 7) q := fun i hi => by
          have h1 := hev i hi
          rw [hcf, List.getElem?_eq_getElem (by omega)] at h1
          obtain ⟨ce, hce, hte⟩ := Option.bind_eq_some_iff.1 h1
          obtain ⟨q, qb, qc, qk, qd, e, hq⟩ := ih m (by omega) ce _ hte
          obtain ⟨_, _, hcc⟩ := World.cells?_some hce
          subst e
          have hs := hspot (by omega)
          obtain ⟨b, o, spot⟩ := a
          simp only at hs
          subst hs
          refine ⟨q, qb, qc, qk, qd, ?_, hq⟩
          have hc : ∀ j, j < 7 → W.cell? ⟨b, o + i * 7 + j, none⟩ = [Value.string q.ty, .string q.cs, .string q.id, .string q.loc, .int .i64 q.how, .slice qb q.body.length qc, .slice qk q.kids.length qd][j]? := fun j hj => by
            have := hcc j hj
            rw [Addr.add_lit, Addr.add_lit] at this
            exact this
          exact ⟨hc 0 (by omega), hc 1 (by omega), hc 2 (by omega), hc 3 (by omega), hc 4 (by omega), hc 5 (by omega), hc 6 (by omega)⟩
        haveI : Inhabited PT := ⟨pt0⟩
        obtain ⟨Q, hQ⟩ := Go.Deep.choose_lt each
        refine ⟨⟨s0, s1, s2, s3, z, body, (List.range len).map Q⟩, pb, cb, some a, cap, ?_, ⟨l0, l1, l2, l3, hz2.1, hz2.2, hbl, ?_⟩, ⟨b1, b2, b3⟩, b4, ⟨?_, hcm, fun h => by cases h⟩, ?_⟩
        · rw [(List.cons.inj e0).1, (List.cons.inj e1).1, (List.cons.inj e2).1, (List.cons.inj e3).1, (List.cons.inj e4).1, (List.cons.inj e5).1, (List.cons.inj e6).1]
          simp
        · simp; exact Nat.le_trans hlc hcm
        · simp; exact hlc
        · rw [hfu, hm]
          refine KAt.up _ _ _ fun hne => ?_
          have hpos : 0 < len := by
            rcases Nat.eq_zero_or_pos len with e | e
            · subst e; exact absurd rfl hne
            · exact e
          have hs := hspot hpos
          obtain ⟨b, o, spot⟩ := a
          simp only at hs
          subst hs
          refine ⟨b, o, rfl, fun i hi => ?_⟩
          have hi' : i < len := by simpa using hi
          have e1 : ((List.range len).map Q).getD i pt0 = Q i := by simp [List.getD_eq_getElem?_getD, hi']
          show PAt W m b (o + i * 7) (((List.range len).map Q).getD i pt0)
          rw [e1]
          exact hQ i hi'

set_option maxRecDepth 100000 in
/-- A part that came in by value. -/
theorem part_open {H : Type} {enc : TypeId × Value → H} {W : World} {base : Nat} {held : Bool} {fuel : Nat} {v : Value} {x : DataW H × List MemPlace}
    (hv : Value.okWide Tryz.prog W .any base 25 v) (h : DataW.trod enc Tryz.prog W 0 (fun _ => true) held fuel 25 v.cells.toList = some x) :
    ∃ (p : PT) (pb : Option Addr) (cb : Nat) (pk : Option Addr) (ck F : Nat), v = .agg #[.string p.ty, .string p.cs, .string p.id, .string p.loc, .int .i64 p.how, .slice pb p.body.length cb, .slice pk p.kids.length ck] ∧ PHeld W F p pb cb pk ck := by
  obtain ⟨cs, rfl, hsz⟩ := okWide_struct Tryz.underlying25 hv
  obtain ⟨p, pb, cb, pk, ck, e, hp⟩ := part_cells fuel _ x h
  refine ⟨p, pb, cb, pk, ck, fuel, ?_, hp⟩
  congr 1
  apply Array.toList_inj.1
  exact e
end Go.Proofs.YtlndhdimamnnlaaGreatDoor

/- Parts that were read: their rows lie in new memory; a count that is written elsewhere changes nothing of them. No function of the program. -/
namespace Go.Proofs.YtlndhdimamnnlaaGreatDoor
open Go.RowKit

/-- An address lies in a block of some kind. -/
def InB (Q : Nat → Prop) (p : Option Addr) : Prop := ∀ a, p = some a → Q a.block
/-- Parts lie behind the address, to the depth f; their rows, and their bodies, in blocks of some kind. -/
def KFar (w : World) (Q : Nat → Prop) : Nat → Option Addr → List PT → Prop
  | 0, _, l => l = []
  | f + 1, a, l => l ≠ [] → ∃ b o, a = some ⟨b, o, none⟩ ∧ Q b ∧ ∀ i, i < l.length → ∃ pb cb pk ck, PCells w b (o + i * 7) (l.getD i pt0) pb cb pk ck ∧ InB Q pb ∧ PHeldK (KFar w Q f) w (l.getD i pt0) pb cb pk ck
def PFar (w : World) (Q : Nat → Prop) (f : Nat) (p : PT) (pb : Option Addr) (cb : Nat) (pk : Option Addr) (ck : Nat) : Prop := InB Q pb ∧ PHeldK (KFar w Q f) w p pb cb pk ck
theorem KFar.at {w : World} {Q : Nat → Prop} : ∀ (f : Nat) (a : Option Addr) (l : List PT), KFar w Q f a l → KAt w f a l
  | 0, _, _, h => h
  | f + 1, a, l, h => fun hne => by
    obtain ⟨b, o, e, _, hc⟩ := h hne
    refine ⟨b, o, e, fun i hi => ?_⟩
    obtain ⟨pb, cb, pk, ck, h1, _, h2⟩ := hc i hi
    exact ⟨pb, cb, pk, ck, h1, h2.1, h2.2.1, h2.2.2.1, h2.2.2.2.1, KFar.at f _ _ h2.2.2.2.2⟩
theorem PFar.held {w : World} {Q : Nat → Prop} {f : Nat} {p : PT} {pb : Option Addr} {cb : Nat} {pk : Option Addr} {ck : Nat} (h : PFar w Q f p pb cb pk ck) : PHeld w f p pb cb pk ck := ⟨h.2.1, h.2.2.1, h.2.2.2.1, h.2.2.2.2.1, KFar.at f _ _ h.2.2.2.2.2⟩
theorem KFar.nil (w : World) (Q : Nat → Prop) (f : Nat) (a : Option Addr) : KFar w Q f a [] := by
  cases f with
  | zero => rfl
  | succ f => exact fun h => absurd rfl h
theorem KFar.up {w : World} {Q : Nat → Prop} : ∀ (f : Nat) (a : Option Addr) (l : List PT), KFar w Q f a l → KFar w Q (f + 1) a l
  | 0, a, l, h => fun hne => absurd h hne
  | f + 1, a, l, h => fun hne => by
    obtain ⟨b, o, e, hb, hc⟩ := h hne
    refine ⟨b, o, e, hb, fun i hi => ?_⟩
    obtain ⟨pb, cb, pk, ck, h1, hq, h2⟩ := hc i hi
    exact ⟨pb, cb, pk, ck, h1, hq, h2.1, h2.2.1, h2.2.2.1, h2.2.2.2.1, KFar.up f _ _ h2.2.2.2.2⟩
theorem BRow.move {w w' : World} {Q : Nat → Prop} (hm : ∀ b, Q b → b < w.heap.size → w'.heap[b]? = w.heap[b]?) {p : Option Addr} {l : List UInt8} (h : BRow w p l) (hq : InB Q p) : BRow w' p l := by
  intro hne
  obtain ⟨b, o, e, hl⟩ := h hne
  refine ⟨b, o, e, fun i hi => ?_⟩
  have h1 := hl i hi
  rw [World.cell?_of_block (hm b (hq _ e) (World.block_lt_of_cell? w _ h1))]
  exact h1
/-- Where the blocks of that kind are as they were, so are the parts. -/
theorem KFar.move {w w' : World} {Q : Nat → Prop} (hm : ∀ b, Q b → b < w.heap.size → w'.heap[b]? = w.heap[b]?) : ∀ (f : Nat) (a : Option Addr) (l : List PT), KFar w Q f a l → KFar w' Q f a l
  | 0, _, _, h => h
  | f + 1, a, l, h => fun hne => by
    obtain ⟨b, o, e, hb, hc⟩ := h hne
    refine ⟨b, o, e, hb, fun i hi => ?_⟩
    obtain ⟨pb, cb, pk, ck, h1, hq, h2⟩ := hc i hi
    obtain ⟨c0, c1, c2, c3, c4, c5, c6⟩ := h1
    have hbl := hm b hb (World.block_lt_of_cell? w _ c0)
    have k : ∀ j, w'.cell? ⟨b, j, none⟩ = w.cell? ⟨b, j, none⟩ := fun j => World.cell?_of_block hbl
    exact ⟨pb, cb, pk, ck, ⟨(k _).trans c0, (k _).trans c1, (k _).trans c2, (k _).trans c3, (k _).trans c4, (k _).trans c5, (k _).trans c6⟩, hq, h2.1, h2.2.1, BRow.move hm h2.2.2.1 hq, h2.2.2.2.1, KFar.move hm f _ _ h2.2.2.2.2⟩
theorem PFar.move {w w' : World} {Q : Nat → Prop} (hm : ∀ b, Q b → b < w.heap.size → w'.heap[b]? = w.heap[b]?) {f : Nat} {p : PT} {pb : Option Addr} {cb : Nat} {pk : Option Addr} {ck : Nat} (h : PFar w Q f p pb cb pk ck) : PFar w' Q f p pb cb pk ck :=
  ⟨h.1, h.2.1, h.2.2.1, BRow.move hm h.2.2.2.1 h.1, h.2.2.2.2.1, KFar.move hm f _ _ h.2.2.2.2.2⟩
/-- Kinds of blocks. -/
theorem KFar.kind {w : World} {Q Q' : Nat → Prop} (hk : ∀ b, Q b → Q' b) : ∀ (f : Nat) (a : Option Addr) (l : List PT), KFar w Q f a l → KFar w Q' f a l
  | 0, _, _, h => h
  | f + 1, a, l, h => fun hne => by
    obtain ⟨b, o, e, hb, hc⟩ := h hne
    refine ⟨b, o, e, hk b hb, fun i hi => ?_⟩
    obtain ⟨pb, cb, pk, ck, h1, hq, h2⟩ := hc i hi
    exact ⟨pb, cb, pk, ck, h1, (fun a ha => hk _ (hq a ha)), h2.1, h2.2.1, h2.2.2.1, h2.2.2.2.1, KFar.kind hk f _ _ h2.2.2.2.2⟩
theorem PFar.kind {w : World} {Q Q' : Nat → Prop} (hk : ∀ b, Q b → Q' b) {f : Nat} {p : PT} {pb : Option Addr} {cb : Nat} {pk : Option Addr} {ck : Nat} (h : PFar w Q f p pb cb pk ck) : PFar w Q' f p pb cb pk ck :=
  ⟨fun a ha => hk _ (h.1 a ha), h.2.1, h.2.2.1, h.2.2.2.1, h.2.2.2.2.1, KFar.kind hk f _ _ h.2.2.2.2.2⟩
theorem PFar.below {w w' : World} {Q : Nat → Prop} {f : Nat} {p : PT} {pb : Option Addr} {cb : Nat} {pk : Option Addr} {ck : Nat} (h : PFar w Q f p pb cb pk ck) (hb : Below w.heap.size w w') : PFar w' Q f p pb cb pk ck := h.move fun b _ hlt => hb.block b hlt

/-- The count lies there. -/
def CountAt (w : World) (g : Nat) (n : Int) : Prop := w.heap[g]? = some (.cells #[.int .i64 n] 3)
theorem CountAt.cell {w : World} {g : Nat} {n : Int} (h : CountAt w g n) : w.cell? ⟨g, 0, none⟩ = some (.int .i64 n) := (cell_of_row w g 0 #[.int .i64 n] 3 (0, 0) h).trans rfl
theorem CountAt.lt {w : World} {g : Nat} {n : Int} (h : CountAt w g n) : g < w.heap.size := (Array.getElem?_eq_some_iff.1 h).1
theorem CountAt.frozen {w : World} {g : Nat} {n : Int} (h : CountAt w g n) : w.frozen? ⟨g, 0, none⟩ = false := by simp [World.frozen?, show w.heap[g]? = _ from h]
theorem CountAt.set {w : World} {g : Nat} {n : Int} (h : CountAt w g n) (m : Int) : CountAt (w.setCell ⟨g, 0, none⟩ (.int .i64 m)) g m := by
  unfold CountAt
  rw [heap_setCell_same w g 0 #[.int .i64 n] 3 (.int .i64 m) h]
  rfl
theorem CountAt.below {w w' : World} {g : Nat} {n : Int} (h : CountAt w g n) (hb : Below w.heap.size w w') : CountAt w' g n := by
  unfold CountAt
  rw [hb.block g h.lt]
  exact h

theorem BRow.count {w : World} {p : Option Addr} {l : List UInt8} (h : BRow w p l) {g : Nat} {n : Int} (hc : CountAt w g n) (v : Value) : BRow (w.setCell ⟨g, 0, none⟩ v) p l := by
  intro hne
  obtain ⟨b, o, e, hl⟩ := h hne
  refine ⟨b, o, e, fun i hi => ?_⟩
  have h1 := hl i hi
  rw [World.cell?_setCell_other _ _ _ _ (fun e => by rw [← e, hc.cell] at h1; cases h1)]
  exact h1
/-- All as it was, but for the count. -/
def Ticks (w : World) (g : Nat) (m : Int) (w' : World) : Prop := Below w.heap.size (w.setCell ⟨g, 0, none⟩ (.int .i64 m)) w'
theorem Ticks.count {w w' : World} {g : Nat} {n m : Int} (h : Ticks w g m w') (hc : CountAt w g n) : CountAt w' g m := by
  have h1 := hc.set m
  have hs : (w.setCell ⟨g, 0, none⟩ (.int .i64 m)).heap.size = w.heap.size := by simp [World.setCell]
  exact h1.below (by rw [hs]; exact h)
theorem Ticks.bytes {w w' : World} {g : Nat} {n m : Int} (h : Ticks w g m w') (hc : CountAt w g n) {p : Option Addr} {l : List UInt8} (hr : BRow w p l) : BRow w' p l := by
  have h1 := hr.count hc (.int .i64 m)
  have hs : (w.setCell ⟨g, 0, none⟩ (.int .i64 m)).heap.size = w.heap.size := by simp [World.setCell]
  exact h1.under (by rw [hs]; exact h)
theorem set_size (w : World) (g : Nat) (v : Value) : (w.setCell ⟨g, 0, none⟩ v).heap.size = w.heap.size := by simp [World.setCell]
theorem Ticks.size {w w' : World} {g : Nat} {m : Int} (h : Ticks w g m w') : w.heap.size ≤ w'.heap.size := by
  have h1 : Below w.heap.size (w.setCell ⟨g, 0, none⟩ (.int .i64 m)) w' := h
  have h2 := h1.size
  rw [set_size] at h2
  exact h2
theorem Ticks.block {w w' : World} {g : Nat} {m : Int} (h : Ticks w g m w') (b : Nat) (hb : b < w.heap.size) (hg : b ≠ g) : w'.heap[b]? = w.heap[b]? := by
  have h1 : Below w.heap.size (w.setCell ⟨g, 0, none⟩ (.int .i64 m)) w' := h
  rw [h1.block b hb, Below.heap_setCell _ _ _ _ hg]
theorem Ticks.far {w w' : World} {g : Nat} {m : Int} (h : Ticks w g m w') {Q : Nat → Prop} (hq : ∀ b, Q b → b ≠ g) {f : Nat} {p : PT} {pb : Option Addr} {cb : Nat} {pk : Option Addr} {ck : Nat} (hp : PFar w Q f p pb cb pk ck) : PFar w' Q f p pb cb pk ck := hp.move fun b hb hlt => h.block b hlt (hq b hb)
theorem Ticks.trans {w w1 w2 : World} {g : Nat} {n m k : Int} (h1 : Ticks w g m w1) (h2 : Ticks w1 g k w2) (hc : CountAt w g n) : Ticks w g k w2 := by
  have c1 := h1.count hc
  have c2 := h2.count c1
  have b1 : Below w.heap.size (w.setCell ⟨g, 0, none⟩ (.int .i64 m)) w1 := h1
  have b2 : Below w1.heap.size (w1.setCell ⟨g, 0, none⟩ (.int .i64 k)) w2 := h2
  refine ⟨b2.os.trans b1.os, b2.tape.trans b1.tape, b2.output.trans b1.output, ?_, fun i hi => ?_⟩
  · rw [set_size]
    exact Nat.le_trans h1.size h2.size
  · by_cases e : i = g
    · subst e
      rw [show w2.heap[i]? = _ from c2, show (w.setCell ⟨i, 0, none⟩ (.int .i64 k)).heap[i]? = _ from hc.set k]
    · rw [b2.block i (Nat.lt_of_lt_of_le hi h1.size), Below.heap_setCell _ _ _ _ e, b1.block i hi, Below.heap_setCell _ _ _ _ e, Below.heap_setCell _ _ _ _ e]
theorem Ticks.then {w w1 w2 : World} {g : Nat} {m : Int} (h1 : Ticks w g m w1) (h2 : Below w1.heap.size w1 w2) : Ticks w g m w2 := by
  have b1 : Below w.heap.size (w.setCell ⟨g, 0, none⟩ (.int .i64 m)) w1 := h1
  exact b1.trans (h2.mono h1.size)
theorem Ticks.base {w0 w w' : World} {g : Nat} {m : Int} (h : Ticks w g m w') (hb : Below w0.heap.size w0 w) (hg : w0.heap.size ≤ g) : Below w0.heap.size w0 w' :=
  (hb.setCell (p := ⟨g, 0, none⟩) hg (.int .i64 m)).trans (h.mono hb.size)
theorem Ticks.owns {w w' : World} {g : Nat} {m : Int} (h : Ticks w g m w') {B e s k : Nat} {v : Value} {xs : List Value} (ho : w.ownsRow B e s v k xs) (hB : g < B) : w'.ownsRow B e s v k xs := by
  have h1 := ownsRow_setCell_below ho (a := ⟨g, 0, none⟩) hB (.int .i64 m)
  have hs : (w.setCell ⟨g, 0, none⟩ (.int .i64 m)).heap.size = w.heap.size := by simp [World.setCell]
  exact ownsRow_below h1 (by rw [hs]; exact h)
end Go.Proofs.YtlndhdimamnnlaaGreatDoor

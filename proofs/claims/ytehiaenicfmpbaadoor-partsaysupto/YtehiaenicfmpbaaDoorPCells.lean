/- Rows of cells. No function of the program. -/
import Derived.Test.YtehiaenicfmpbaaDoorPAll
import Derived.Deep.SlicePairs
namespace Go.Proofs.YtehiaenicfmpbaaDoor
open Go.RowKit

/-- These values lie behind the address, a cell each. -/
def Cells (w : World) (p : Option Addr) (l : List Value) : Prop := l ≠ [] → ∃ b o, p = some ⟨b, o, none⟩ ∧ ∀ j u, l[j]? = some u → w.cell? ⟨b, o + j, none⟩ = some u
theorem Cells.below {w w' : World} {p : Option Addr} {l : List Value} (h : Cells w p l) (hb : Below w.heap.size w w') : Cells w' p l := by
  intro hne
  obtain ⟨b, o, rfl, hc⟩ := h hne
  refine ⟨b, o, rfl, fun j u hj => ?_⟩
  have := hc j u hj
  rw [hb.cell (p := ⟨b, o + j, none⟩) (World.block_lt_of_cell? w _ this)]
  exact this
theorem Cells.ints {w : World} {q : Option Addr} {l : List Int} (h : IRow w q l) : Cells w q (izv l) := by
  intro hne
  have hl : l ≠ [] := fun e => hne (by rw [e]; rfl)
  obtain ⟨b, o, rfl, hc⟩ := h hl
  refine ⟨b, o, rfl, fun j u hj => ?_⟩
  have hjl : j < l.length := by
    have := (List.getElem?_eq_some_iff.1 hj).1
    simpa [izv] using this
  rw [hc j hjl]
  simp [izv, hjl] at hj
  rw [← hj]
  simp [List.getD_eq_getElem?_getD, List.getElem?_eq_getElem hjl]
theorem izv_one (l : List Int) : ∀ u ∈ izv l, u.oneCell' = true := by
  intro u hu
  simp only [izv, List.mem_map] at hu
  obtain ⟨c, _, rfl⟩ := hu
  rfl
/-- Parts with where their bodies and parts lie. -/
abbrev PZ := PT × (Option Addr × Nat) × (Option Addr × Nat)
def pzc (z : PZ) : List Value := [.string z.1.ty, .string z.1.cs, .string z.1.id, .string z.1.loc, .int .i64 z.1.how, .slice z.2.1.1 z.1.body.length z.2.1.2, .slice z.2.2.1 z.1.kids.length z.2.2.2]
def pzv (Z : List PZ) : List Value := Z.flatMap pzc
theorem pzv_append (Y Z : List PZ) : pzv (Y ++ Z) = pzv Y ++ pzv Z := by simp [pzv]
theorem pzv_length : ∀ Z : List PZ, (pzv Z).length = Z.length * 7
  | [] => rfl
  | z :: Z => by show (pzc z ++ pzv Z).length = _; rw [List.length_append, pzv_length Z]; simp [pzc]; omega
theorem pzv_one (Z : List PZ) : ∀ u ∈ pzv Z, u.oneCell' = true := by
  intro u hu
  simp only [pzv, List.mem_flatMap] at hu
  obtain ⟨z, _, hz⟩ := hu
  simp only [pzc, List.mem_cons, List.not_mem_nil, or_false] at hz
  rcases hz with rfl | rfl | rfl | rfl | rfl | rfl | rfl <;> rfl
theorem pz_at (Z : List PZ) (k : Nat) (z : PZ) (h : Z[k]? = some z) (j : Nat) (v : Value) (hj : (pzc z)[j]? = some v) : (pzv Z)[k * 7 + j]? = some v := by
  have hj7 : j < 7 := by have := (List.getElem?_eq_some_iff.1 hj).1; simpa [pzc] using this
  induction Z generalizing k with
  | nil => simp at h
  | cons y Z ih =>
    show (pzc y ++ pzv Z)[k * 7 + j]? = some v
    cases k with
    | zero =>
      obtain rfl := Option.some.inj h
      rw [List.getElem?_append_left (by simp [pzc]; omega), Nat.zero_mul, Nat.zero_add]
      exact hj
    | succ k =>
      rw [List.getElem?_append_right (by simp [pzc]; omega)]
      have := ih k (by simpa using h)
      rw [← this]
      congr 1
      simp [pzc]
      omega
theorem pz_back : ∀ (Z : List PZ) (j : Nat) (v : Value), (pzv Z)[j]? = some v → ∃ z, Z[j / 7]? = some z ∧ (pzc z)[j % 7]? = some v
  | [], j, v, h => by simp [pzv] at h
  | y :: Z, j, v, h => by
    have h' : (pzc y ++ pzv Z)[j]? = some v := h
    by_cases hj : j < 7
    · rw [List.getElem?_append_left (by simp [pzc]; omega)] at h'
      exact ⟨y, by rw [Nat.div_eq_of_lt hj]; rfl, by rw [Nat.mod_eq_of_lt hj]; exact h'⟩
    · rw [List.getElem?_append_right (by simp [pzc]; omega)] at h'
      obtain ⟨z, h1, h2⟩ := pz_back Z (j - 7) v (by simpa [pzc] using h')
      refine ⟨z, ?_, ?_⟩
      · rw [show j / 7 = (j - 7) / 7 + 1 from by omega]; exact h1
      · rw [show j % 7 = (j - 7) % 7 from by omega]; exact h2

/-- Parts that lie there, with where all lies. -/
theorem KAt.list {w : World} {f : Nat} {a : Option Addr} {l : List PT} (h : KAt w (f + 1) a l) : ∃ Z : List PZ, Z.map (·.1) = l ∧ Cells w a (pzv Z) ∧ ∀ z ∈ Z, PHeld w f z.1 z.2.1.1 z.2.1.2 z.2.2.1 z.2.2.2 := by
  by_cases hne : l = []
  · subst hne
    exact ⟨[], rfl, fun h => absurd rfl h, fun z hz => by cases hz⟩
  · obtain ⟨b, o, rfl, hc⟩ := h.each hne
    have each : ∀ i, i < l.length → ∃ z : PZ, z.1 = l.getD i pt0 ∧ PCells w b (o + i * 7) z.1 z.2.1.1 z.2.1.2 z.2.2.1 z.2.2.2 ∧ PHeld w f z.1 z.2.1.1 z.2.1.2 z.2.2.1 z.2.2.2 := fun i hi => by
      obtain ⟨pb, cb, pk, ck, h1, h2⟩ := hc i hi
      exact ⟨(_, (pb, cb), (pk, ck)), rfl, h1, h2⟩
    haveI : Inhabited PZ := ⟨(pt0, (none, 0), (none, 0))⟩
    obtain ⟨Q, hQ⟩ := Go.Deep.choose_lt each
    refine ⟨(List.range l.length).map Q, ?_, fun _ => ⟨b, o, rfl, fun j u hj => ?_⟩, fun z hz => ?_⟩
    · apply List.ext_getElem (by simp)
      intro i h1 h2
      simp only [List.getElem_map, List.getElem_range]
      rw [(hQ i h2).1, List.getD_eq_getElem?_getD, List.getElem?_eq_getElem h2]
      rfl
    · obtain ⟨z, hz, hv⟩ := pz_back _ j u hj
      have hl := (List.getElem?_eq_some_iff.1 hz).1
      have hl' : j / 7 < l.length := by simpa using hl
      have ez : z = Q (j / 7) := by
        rw [List.getElem?_map, List.getElem?_range hl'] at hz
        exact (Option.some.inj hz).symm
      obtain ⟨_, hC, _⟩ := hQ (j / 7) hl'
      rw [← ez] at hC
      obtain ⟨c0, c1, c2, c3, c4, c5, c6⟩ := hC
      have hm : j % 7 < 7 := Nat.mod_lt _ (by decide)
      rw [show o + j = o + j / 7 * 7 + j % 7 from by omega]
      generalize j % 7 = r at *
      match r, hm with
      | 0, _ => obtain rfl := Option.some.inj hv; exact c0
      | 1, _ => obtain rfl := Option.some.inj hv; exact c1
      | 2, _ => obtain rfl := Option.some.inj hv; exact c2
      | 3, _ => obtain rfl := Option.some.inj hv; exact c3
      | 4, _ => obtain rfl := Option.some.inj hv; exact c4
      | 5, _ => obtain rfl := Option.some.inj hv; exact c5
      | 6, _ => obtain rfl := Option.some.inj hv; exact c6
    · obtain ⟨i, hi, rfl⟩ := List.mem_map.1 hz
      exact (hQ i (by simpa using hi)).2.2
/-- Such cells are parts that lie there. -/
theorem KAt.of_list {w : World} {f : Nat} {a : Option Addr} {Z : List PZ} (hc : Cells w a (pzv Z)) (hh : ∀ z ∈ Z, PHeld w f z.1 z.2.1.1 z.2.1.2 z.2.2.1 z.2.2.2) : KAt w (f + 1) a (Z.map (·.1)) := by
  intro hne
  have hZ : Z ≠ [] := fun e => hne (by rw [e]; rfl)
  obtain ⟨b, o, e, hcc⟩ := hc (fun e => by have := pzv_length Z; rw [e] at this; cases Z with | nil => exact hZ rfl | cons a l => simp at this)
  refine ⟨b, o, e, fun i hi => ?_⟩
  have hi' : i < Z.length := by simpa using hi
  have ez : (Z.map (·.1)).getD i pt0 = Z[i].1 := by simp [List.getD_eq_getElem?_getD, hi']
  have hz : Z[i]? = some Z[i] := List.getElem?_eq_getElem hi'
  have cell : ∀ j v, (pzc Z[i])[j]? = some v → w.cell? ⟨b, o + i * 7 + j, none⟩ = some v := fun j v hj => by
    have := hcc (i * 7 + j) v (pz_at Z i Z[i] hz j v hj)
    rwa [← Nat.add_assoc] at this
  rw [ez]
  exact ⟨Z[i].2.1.1, Z[i].2.1.2, Z[i].2.2.1, Z[i].2.2.2, ⟨cell 0 _ rfl, cell 1 _ rfl, cell 2 _ rfl, cell 3 _ rfl, cell 4 _ rfl, cell 5 _ rfl, cell 6 _ rfl⟩, hh _ (List.getElem_mem hi')⟩
theorem owned_cells {w : World} {B e s n : Nat} {v : Value} {xs : List Value} (h : w.ownsRow B e s v n xs) : ∃ p c, v = .slice p n c ∧ n ≤ c ∧ c ≤ maxLen ∧ (p = none → n = 0 ∧ c = 0) ∧ Cells w p xs := by
  have h' := h
  rcases h.2 with ⟨rfl, h0⟩ | ⟨g, cap, cur, rfl, hg, hh, hnc, hcp, hcs, htake⟩
  · refine ⟨none, 0, by rw [h0], by omega, by decide, fun _ => ⟨h0, rfl⟩, fun hne => ?_⟩
    have hx := h.1
    rw [h0, Nat.zero_mul] at hx
    exact absurd (List.length_eq_zero_iff.1 hx) hne
  · refine ⟨some ⟨g, 0, none⟩, cap, rfl, hnc, hcp, fun e => (by cases e), fun _ => ⟨g, 0, rfl, fun j u hj => ?_⟩⟩
    have hjl := (List.getElem?_eq_some_iff.1 hj).1
    rw [Nat.zero_add, h'.cellAt j (by rw [← h'.1]; exact hjl), hj]
end Go.Proofs.YtehiaenicfmpbaaDoor

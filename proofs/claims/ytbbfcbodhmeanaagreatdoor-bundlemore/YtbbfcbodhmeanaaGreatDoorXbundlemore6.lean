
import Derived.Test.YtbbfcbodhmeanaaGreatDoorXbundlemore5
import Derived.Deep.SlicePairs
import Derived.Laws.AppendOwnNone
import Derived.Lib.AppendZeros
import Derived.Lib.SlBytesConst
import Derived.ChangeSlices
import Derived.Below
import Derived.Laws.Rows
namespace Go.Proofs.YtbbfcbodhmeanaaGreatDoor
open Go.RowKit
theorem owns_apart {w : World} {B1 e1 s1 n1 B2 e2 s2 n2 : Nat} {v1 v2 : Value} {x1 x2 : List Value} (h1 : w.ownsRow B1 e1 s1 v1 n1 x1) (h2 : w.ownsRow B2 e2 s2 v2 n2 x2) (hne : e1 ≠ e2) : v1.ownBlock = none ∨ v1.ownBlock ≠ v2.ownBlock := by
 rcases h1.2 with ⟨rfl, _⟩ | ⟨g, cap, cur, rfl, _, hg, _⟩
 ·exact .inl rfl
 ·rcases h2.2 with ⟨rfl, _⟩ | ⟨g', cap', cur', rfl, _, hg', _⟩
  ·exact .inr (by simp [Value.ownBlock])
  ·refine .inr fun e => ?_
   simp only [Value.ownBlock, Option.some.injEq] at e
   subst e
   rw [hg] at hg'
   injection hg' with hg'
   injection hg' with _ h _
   exact hne h
theorem owns_set {w : World} {B e s n : Nat} {v : Value} {xs : List Value} (h : w.ownsRow B e s v n xs) (a : Addr) (u : Value) (ha : a.block < B) : (w.setCell a u).ownsRow B e s v n xs := by
 refine ⟨h.1, ?_⟩
 rcases h.2 with h | ⟨g, cap, cur, e1, e2, e3, r⟩
 ·exact .inl h
 ·exact .inr ⟨g, cap, cur, e1, e2, by rw [heap_setCell_other w a g u (by omega)]; exact e3, r⟩
theorem set_other {w : World} {b i j : Nat} {v : Value} (h : i ≠ j) : (w.setCell ⟨b, i, none⟩ v).cell? ⟨b, j, none⟩ = w.cell? ⟨b, j, none⟩ := World.cell?_setCell_other _ _ _ _ (fun e => h (congrArg Addr.off e))
theorem bclone_any (pb : Option Addr) (body : List UInt8) (n cb : Nat) (en : n = body.length) (w : World) (hr : BRow w pb body) (hn : n ≤ 140737488355328) :
  Calls Tryz.prog 74 #[.slice pb n cb] w fun e w' => ∃ q c, e = .returned (.slice q n c) ∧ w'.ownsRow w.heap.size 5 1 (.slice q n c) n (bv body) ∧ Below w.heap.size w w' := by
 subst en
 cases pb with
 | none =>
  have h0 : body = [] := by
   cases hb : body with
   | nil => rfl
   | cons a l => obtain ⟨b, o, e, _⟩ := hr (by rw [hb]; simp); cases e
  subst h0
  refine (Tryz.bytes_Clone_nil 0 cb w).mono ?_
  rintro e w' ⟨rfl, rfl⟩
  exact ⟨none, 0, rfl, World.ownsRow_nil _ _ _ _, Below.refl _ _⟩
 | some a =>
  refine (Tryz.bytes_Clone_at a body.length cb (body.map fun c => ((c.toNat : Nat) : Int)) w (by simp) hn (fun i hi => ?_)).mono ?_
  ·obtain ⟨b, o, e, hc⟩ := hr (fun h => by rw [h] at hi; simp at hi)
   obtain rfl := Option.some.inj e
   have := hc i hi
   rw [Addr.add_lit, this]
   simp [List.getD_eq_getElem?_getD, List.getElem?_eq_getElem hi]
  ·rintro e w' ⟨v, rfl, hown, _, hb⟩
   obtain ⟨q, c, rfl⟩ := owned_slice hown
   refine ⟨q, c, rfl, ?_, hb⟩
   rw [List.map_map] at hown
   exact hown
abbrev PY := PT × Option Addr × Nat
def pav (Y : List PY) : List Value := Y.flatMap fun y => [.string y.1.ty, .string y.1.cs, .string y.1.id, .string y.1.loc, .int .i64 y.1.how, .slice y.2.1 y.1.body.length y.2.2, .slice none 0 0]
theorem pav_snoc (Y : List PY) (y : PY) : pav (Y ++ [y]) = pav Y ++ [.string y.1.ty, .string y.1.cs, .string y.1.id, .string y.1.loc, .int .i64 y.1.how, .slice y.2.1 y.1.body.length y.2.2, .slice none 0 0] := by simp [pav]
theorem pa_at (Y : List PY) (k : Nat) (y : PY) (h : Y[k]? = some y) (j : Nat) (v : Value) (hj : [Value.string y.1.ty, .string y.1.cs, .string y.1.id, .string y.1.loc, .int .i64 y.1.how, .slice y.2.1 y.1.body.length y.2.2, .slice none 0 0][j]? = some v) : (pav Y)[k * 7 + j]? = some v := by
 induction Y generalizing k with
 | nil => simp at h
 | cons z Y ih =>
  have hj7 : j < 7 := by have := (List.getElem?_eq_some_iff.1 hj).1; simpa using this
  show ([Value.string z.1.ty, .string z.1.cs, .string z.1.id, .string z.1.loc, .int .i64 z.1.how, .slice z.2.1 z.1.body.length z.2.2, .slice none 0 0] ++ pav Y)[k * 7 + j]? = some v
  cases k with
  | zero =>
   obtain rfl := Option.some.inj h
   rw [List.getElem?_append_left (by simp; omega), Nat.zero_mul, Nat.zero_add]
   exact hj
  | succ k =>
   rw [List.getElem?_append_right (by simp; omega)]
   have := ih k (by simpa using h)
   rw [← this]
   congr 1
   simp
   omega
def Bodies (w : World) (B : Nat) (Y : List PY) : Prop := ∀ y ∈ Y, y.1.kids = [] ∧ PLen y.1 ∧ w.ownsRow B 5 1 (.slice y.2.1 y.1.body.length y.2.2) y.1.body.length (bv y.1.body)
theorem owned_parts {w : World} {B : Nat} {v : Value} {Y : List PY} (h : w.ownsRow B 25 7 v Y.length (pav Y)) (hb : Bodies w B Y) : ∃ p c, v = .slice p Y.length c ∧ Y.length ≤ c ∧ c ≤ maxLen ∧ (p = none → Y.length = 0 ∧ c = 0) ∧ KAt w 1 p (Y.map (·.1)) := by
 have h' := h
 rcases h.2 with ⟨rfl, h0⟩ | ⟨g, cap, cur, rfl, hg, hh, hnc, hcp, hcs, htake⟩
 ·refine ⟨none, 0, by rw [h0], by omega, by decide, fun _ => ⟨h0, rfl⟩, ?_⟩
  rw [List.length_eq_zero_iff.1 h0]
  exact KAt.nil _ _ _
 ·refine ⟨some ⟨g, 0, none⟩, cap, rfl, hnc, hcp, fun e => (by cases e), KAt.mk fun i hi => ?_⟩
  have hi' : i < Y.length := by simpa using hi
  have hy : Y[i]? = some Y[i] := List.getElem?_eq_getElem hi'
  have e : (Y.map (·.1)).getD i pt0 = Y[i].1 := by simp [List.getD_eq_getElem?_getD, hi']
  obtain ⟨k0, k1, k2⟩ := hb Y[i] (List.getElem_mem hi')
  obtain ⟨q, c, e2, k3, k4, k5, k6⟩ := owned_row k2
  injection e2 with e3 e4 e5
  rw [e]
  have cell : ∀ j v, [Value.string Y[i].1.ty, .string Y[i].1.cs, .string Y[i].1.id, .string Y[i].1.loc, .int .i64 Y[i].1.how, .slice Y[i].2.1 Y[i].1.body.length Y[i].2.2, .slice none 0 0][j]? = some v → j < 7 → w.cell? ⟨g, 0 + i * 7 + j, none⟩ = some v := fun j v hj h7 => by
   rw [h'.cellAt (0 + i * 7 + j) (by omega), Nat.zero_add]
   exact pa_at Y i Y[i] hy j v hj
  refine ⟨Y[i].2.1, Y[i].2.2, none, 0, ⟨cell 0 _ rfl (by omega), cell 1 _ rfl (by omega), cell 2 _ rfl (by omega), cell 3 _ rfl (by omega), cell 4 _ rfl (by omega), cell 5 _ rfl (by omega), by rw [k0]; exact cell 6 _ rfl (by omega)⟩, k1, ?_, ?_, ?_, ?_⟩
  ·rw [e5]; exact ⟨k3, k4, fun h => (k5 (e3 ▸ h)).2⟩
  ·rw [e3]; exact k6
  ·rw [k0]; exact ⟨Nat.le_refl _, by decide, fun _ => rfl⟩
  ·exact k0
def AllPost (w : World) (r : Nat × List (PT × Int)) (e : Ending) (w' : World) : Prop :=
 Below w.heap.size w w' ∧ (r.1 ≠ 0 → e = .returned (.tuple #[.slice none 0 0, .int .i64 (r.1 : Int)])) ∧
 (r.1 = 0 → ∃ q c, e = .returned (.tuple #[.slice q r.2.length c, .int .i64 0]) ∧ r.2.length ≤ c ∧ c ≤ maxLen ∧ (q = none → c = 0) ∧ KAt w' 1 q (r.2.map fun x => x.1.alone))
theorem info_part : (Tryz.prog.info? 25).map (fun i => (i.zero, i.size, i.bytes)) = some (some (.agg #[.string ⟨#[]⟩, .string ⟨#[]⟩, .string ⟨#[]⟩, .string ⟨#[]⟩, .int .i64 0, .slice none 0 0, .slice none 0 0]), 7, 120) := by kernel_rfl
theorem cell_seven (w : World) (c : List Value) (t : TypeId) (b : Nat) (hb : b = w.heap.size) : ∀ j x, c[j]? = some x → (w.alloc (.cells c.toArray t)).cell? ((⟨b, 0, none⟩ : Addr).add j) = some x := by
 subst hb
 intro j x hj
 rw [Addr.add_lit, Nat.zero_add]
 simp [hj]
theorem made_seven {w w1 : World} {t : TypeId} {a b c d e f g : Value} (hb : Below (w.alloc (.cells #[a, b, c, d, e, f, g] t)).heap.size (w.alloc (.cells #[a, b, c, d, e, f, g] t)) w1) (k : Nat) (hk : k = w.heap.size) :
  w1.cell? ⟨k, 0, none⟩ = some a ∧ w1.cell? ⟨k, 1, none⟩ = some b ∧ w1.cell? ⟨k, 2, none⟩ = some c ∧ w1.cell? ⟨k, 3, none⟩ = some d ∧ w1.cell? ⟨k, 4, none⟩ = some e ∧ w1.cell? ⟨k, 5, none⟩ = some f ∧ w1.cell? ⟨k, 6, none⟩ = some g ∧
   w1.frozen? ⟨k, 5, none⟩ = false ∧ w1.frozen? ⟨k, 6, none⟩ = false ∧ k < w1.heap.size ∧ Below w.heap.size w w1 := by
 subst hk
 have hs := hb.size
 rw [World.size_alloc] at hs
 refine ⟨?_, ?_, ?_, ?_, ?_, ?_, ?_, ?_, ?_, by omega, ((Below.refl _ _).alloc (Nat.le_refl _) _).trans (hb.mono (by simp))⟩
 ·rw [hb.cell (p := ⟨w.heap.size, 0, none⟩) (by simp)]; simp
 ·rw [hb.cell (p := ⟨w.heap.size, 1, none⟩) (by simp)]; simp
 ·rw [hb.cell (p := ⟨w.heap.size, 2, none⟩) (by simp)]; simp
 ·rw [hb.cell (p := ⟨w.heap.size, 3, none⟩) (by simp)]; simp
 ·rw [hb.cell (p := ⟨w.heap.size, 4, none⟩) (by simp)]; simp
 ·rw [hb.cell (p := ⟨w.heap.size, 5, none⟩) (by simp)]; simp
 ·rw [hb.cell (p := ⟨w.heap.size, 6, none⟩) (by simp)]; simp
 ·rw [hb.frozen (p := ⟨w.heap.size, 5, none⟩) (by simp)]; simp
 ·rw [hb.frozen (p := ⟨w.heap.size, 6, none⟩) (by simp)]; simp
theorem firstBad_each : ∀ (L : List (PT × Int)), firstBad L = 0 → ∀ x ∈ L, chkA x.1 = 0
 | [], _, x, hx => by cases hx
 | y :: L, h, x, hx => by
  rw [firstBad] at h
  split at h
  ·rename_i h0
   rcases List.mem_cons.1 hx with e | e
   ·subst e; exact h0
   ·exact firstBad_each L h x e
  ·rename_i h0; exact absurd h h0
theorem placesP_each (p : PT) : ∀ x ∈ (placesP p).2, chkA x.1 = 0 := by
 unfold placesP
 cases hp : put 4 [] p 1 (-1) with
 | none => intro x hx; cases hx
 | some L =>
  simp only
  by_cases hb : firstBad L = 0
  ·rw [if_pos hb]; exact firstBad_each L hb
  ·rw [if_neg hb]; intro x hx; cases hx
theorem chkA_body (p : PT) (h : chkA p = 0) : p.body.length ≤ 4000 := by
 unfold chkA at h
 split at h
 ·cases h
 ·split at h
  ·cases h
  ·split at h
   ·cases h
   ·omega
end Go.Proofs.YtbbfcbodhmeanaaGreatDoor



namespace Go.Proofs.YtbbfcbodhmeanaaGreatDoor
end Go.Proofs.YtbbfcbodhmeanaaGreatDoor



namespace Go.Proofs.YtbbfcbodhmeanaaGreatDoor
theorem bad_each : ∀ (L : List (PT × Int)), firstBad L = 0 → ∀ x ∈ L, chkA x.1 = 0
 | [], _, x, hx => by cases hx
 | y :: L, h, x, hx => by
  rw [firstBad] at h
  split at h
  ·rename_i h0
   rcases List.mem_cons.1 hx with e | e
   ·subst e; exact h0
   ·exact bad_each L h x e
  ·rename_i h0; exact absurd h h0
end Go.Proofs.YtbbfcbodhmeanaaGreatDoor



namespace Go.Proofs.YtbbfcbodhmeanaaGreatDoor
open Go.RowKit
end Go.Proofs.YtbbfcbodhmeanaaGreatDoor



namespace Go.Proofs.YtbbfcbodhmeanaaGreatDoor
open Go.RowKit
def Cells (w : World) (p : Option Addr) (l : List Value) : Prop := l ≠ [] → ∃ b o, p = some ⟨b, o, none⟩ ∧ ∀ j u, l[j]? = some u → w.cell? ⟨b, o + j, none⟩ = some u
theorem Cells.below {w w' : World} {p : Option Addr} {l : List Value} (h : Cells w p l) (hb : Below w.heap.size w w') : Cells w' p l := by
 intro hne
 obtain ⟨b, o, rfl, hc⟩ := h hne
 refine ⟨b, o, rfl, fun j u hj => ?_⟩
 have := hc j u hj
 rw [hb.cell (p := ⟨b, o + j, none⟩) (World.block_lt_of_cell? w _ this)]
 exact this
abbrev PZ := PT × (Option Addr × Nat) × (Option Addr × Nat)
def pzc (z : PZ) : List Value := [.string z.1.ty, .string z.1.cs, .string z.1.id, .string z.1.loc, .int .i64 z.1.how, .slice z.2.1.1 z.1.body.length z.2.1.2, .slice z.2.2.1 z.1.kids.length z.2.2.2]
def pzv (Z : List PZ) : List Value := Z.flatMap pzc
theorem pzv_append (Y Z : List PZ) : pzv (Y ++ Z) = pzv Y ++ pzv Z := by simp [pzv]
theorem pzv_length : ∀ Z : List PZ, (pzv Z).length = Z.length * 7
 | [] => rfl
 | z :: Z => by show (pzc z ++ pzv Z).length = _; rw [List.length_append, pzv_length Z]; simp [pzc]; omega
theorem pz_at (Z : List PZ) (k : Nat) (z : PZ) (h : Z[k]? = some z) (j : Nat) (v : Value) (hj : (pzc z)[j]? = some v) : (pzv Z)[k * 7 + j]? = some v := by
 have hj7 : j < 7 := by have := (List.getElem?_eq_some_iff.1 hj).1; simpa [pzc] using this
 induction Z generalizing k with
 | nil => simp at h
 | cons y Z ih =>
  show (pzc y ++ pzv Z)[k * 7 + j]? = some v
  cases k with
  | zero =>
   obtain rfl := Option.some.inj h
   rw [List.getElem?_append_left (by simp [pzc]; omega), Nat.zero_mul, Nat.zero_add]
   exact hj
  | succ k =>
   rw [List.getElem?_append_right (by simp [pzc]; omega)]
   have := ih k (by simpa using h)
   rw [← this]
   congr 1
   simp [pzc]
   omega
theorem KAt.of_list {w : World} {f : Nat} {a : Option Addr} {Z : List PZ} (hc : Cells w a (pzv Z)) (hh : ∀ z ∈ Z, PHeld w f z.1 z.2.1.1 z.2.1.2 z.2.2.1 z.2.2.2) : KAt w (f + 1) a (Z.map (·.1)) := by
 intro hne
 have hZ : Z ≠ [] := fun e => hne (by rw [e]; rfl)
 obtain ⟨b, o, e, hcc⟩ := hc (fun e => by have := pzv_length Z; rw [e] at this; cases Z with | nil => exact hZ rfl | cons a l => simp at this)
 refine ⟨b, o, e, fun i hi => ?_⟩
 have hi' : i < Z.length := by simpa using hi
 have ez : (Z.map (·.1)).getD i pt0 = Z[i].1 := by simp [List.getD_eq_getElem?_getD, hi']
 have hz : Z[i]? = some Z[i] := List.getElem?_eq_getElem hi'
 have cell : ∀ j v, (pzc Z[i])[j]? = some v → w.cell? ⟨b, o + i * 7 + j, none⟩ = some v := fun j v hj => by
  have := hcc (i * 7 + j) v (pz_at Z i Z[i] hz j v hj)
  rwa [← Nat.add_assoc] at this
 rw [ez]
 exact ⟨Z[i].2.1.1, Z[i].2.1.2, Z[i].2.2.1, Z[i].2.2.2, ⟨cell 0 _ rfl, cell 1 _ rfl, cell 2 _ rfl, cell 3 _ rfl, cell 4 _ rfl, cell 5 _ rfl, cell 6 _ rfl⟩, hh _ (List.getElem_mem hi')⟩
theorem owned_cells {w : World} {B e s n : Nat} {v : Value} {xs : List Value} (h : w.ownsRow B e s v n xs) : ∃ p c, v = .slice p n c ∧ n ≤ c ∧ c ≤ maxLen ∧ (p = none → n = 0 ∧ c = 0) ∧ Cells w p xs := by
 have h' := h
 rcases h.2 with ⟨rfl, h0⟩ | ⟨g, cap, cur, rfl, hg, hh, hnc, hcp, hcs, htake⟩
 ·refine ⟨none, 0, by rw [h0], by omega, by decide, fun _ => ⟨h0, rfl⟩, fun hne => ?_⟩
  have hx := h.1
  rw [h0, Nat.zero_mul] at hx
  exact absurd (List.length_eq_zero_iff.1 hx) hne
 ·refine ⟨some ⟨g, 0, none⟩, cap, rfl, hnc, hcp, fun e => (by cases e), fun _ => ⟨g, 0, rfl, fun j u hj => ?_⟩⟩
  have hjl := (List.getElem?_eq_some_iff.1 hj).1
  rw [Nat.zero_add, h'.cellAt j (by rw [← h'.1]; exact hjl), hj]
end Go.Proofs.YtbbfcbodhmeanaaGreatDoor



namespace Go.Proofs.YtbbfcbodhmeanaaGreatDoor
open Go.RowKit
end Go.Proofs.YtbbfcbodhmeanaaGreatDoor



namespace Go.Proofs.YtbbfcbodhmeanaaGreatDoor
open Go.RowKit
def bodyA : List UInt8 := [60, 97, 32, 104, 114, 101, 102, 61, 39, 99, 39, 62, 60, 105, 109, 103, 32, 83, 82, 67, 61, 99, 105, 100, 58, 120, 62, 60, 97, 32, 104, 114, 101, 102, 61, 35, 100, 62]
def partA : PT := ⟨⟨#[116, 101, 120, 116, 47, 104, 116, 109, 108]⟩, ⟨#[117, 116, 102, 45, 56]⟩, ⟨#[]⟩, ⟨#[]⟩, 2, bodyA, []⟩
def partB : PT := ⟨⟨#[105, 109, 97, 103, 101, 47, 112, 110, 103]⟩, ⟨#[]⟩, ⟨#[120]⟩, ⟨#[99]⟩, 1, [1, 2, 3], []⟩
def smallT : PT := ⟨⟨#[109, 117, 108, 116, 105, 112, 97, 114, 116, 47, 114, 101, 108, 97, 116, 101, 100]⟩, ⟨#[]⟩, ⟨#[]⟩, ⟨#[104, 116, 116, 112, 58, 47, 47, 104, 47, 97, 47, 98]⟩, 0, [], [partA, partB]⟩
theorem BRow_lit (w : World) (L : List UInt8) (C : Array Value) (hC : C = (bv L).toArray) (t : TypeId) (fr : Nat × Nat) (b : Nat) (hb : b = w.heap.size) : BRow (w.alloc (.cells C t fr)) (some ⟨b, 0, none⟩) L := by
 subst hC hb
 intro _
 refine ⟨w.heap.size, 0, rfl, fun i hi => ?_⟩
 rw [Nat.zero_add, World.cell?_alloc_mark w _ t fr i]
 simp [bv, List.getD_eq_getElem?_getD, List.getElem?_eq_getElem hi]
theorem cell_lits (w : World) (c : List Value) (t : TypeId) (b j k : Nat) (x : Value) (hb : b = w.heap.size) (hk : k = j) (h : c[j]? = some x) : (w.alloc (.cells c.toArray t)).cell? ⟨b, k, none⟩ = some x := by
 subst hk
 have := cell_seven w c t b hb k x h
 rwa [Addr.add_lit, Nat.zero_add] at this
theorem lens (p : PT) (h : (decide (p.ty.size ≤ 1000000) && decide (p.cs.size ≤ 1000000) && decide (p.id.size ≤ 1000000) && decide (p.loc.size ≤ 1000000) && decide (-1000 ≤ p.how) && decide (p.how ≤ 1000) && decide (p.body.length ≤ 1000000) && decide (p.kids.length ≤ 1000000)) = true) : PLen p := by
 simp only [Bool.and_eq_true, decide_eq_true_eq] at h
 obtain ⟨⟨⟨⟨⟨⟨⟨a, b⟩, c⟩, d⟩, e⟩, f⟩, g⟩, k⟩ := h
 unfold PLen maxLen
 omega
theorem kc_at (w : World) (X : Obj) (C : Array Value) (n c : Nat) : (convert 22 22 (.slice (some ⟨w.heap.size + 1, 0, none⟩) n c)).run Tryz.prog ((w.alloc X).alloc (.cells C 5)) = .ok (.slice (some ⟨w.heap.size + 1, 0, none⟩) n c) ((w.alloc X).alloc (.cells C 5 (C.size, C.size + 1))) := by
 have h := Lib.run_convert_bytes_const (P := Tryz.prog) (w.alloc X) 22 5 C n c Tryz.underlying22 Tryz.underlying5
 rw [World.size_alloc] at h
 exact h
set_option maxHeartbeats 1000000 in
set_option maxRecDepth 100000 in
theorem psmall_any (w : World) : Calls Tryz.prog 49 #[] w fun e w' => ∃ g, e = .returned (.agg #[.string smallT.ty, .string smallT.cs, .string smallT.id, .string smallT.loc, .int .i64 smallT.how, .slice none smallT.body.length 0, .slice (some ⟨g, 0, none⟩) smallT.kids.length 2]) ∧ PHeld w' 1 smallT none 0 (some ⟨g, 0, none⟩) 2 ∧ Below w.heap.size w w' := by
 have kc := fun (X : Obj) (C : Array Value) (n c : Nat) => kc_at w X C n c
 go_enter Tryz.func49, Tryz.ntmps49
 go_wp2
 (try simp only [Exit.inBlock, Exit.then])
 refine bodyPost_ret (v := .agg #[.string smallT.ty, .string smallT.cs, .string smallT.id, .string smallT.loc, .int .i64 smallT.how, .slice none smallT.body.length 0, .slice (some ⟨w.heap.size + 1 + 1 + 1, 0, none⟩) smallT.kids.length 2]) ?_ rfl ⟨_, rfl, ?_, ?_⟩
 ·refine results_cell_row rfl _ _ w.heap.size 25 _ (0, 0) _ rfl ?_ Tryz.underlying25 rfl (by kernel_rfl)
  exact (Below.heap_alloc _ _ _ (by simp; omega)).trans ((Below.heap_alloc _ _ _ (by simp; omega)).trans ((Below.heap_alloc _ _ _ (by simp)).trans (heap_alloc_new w _)))
 ·have hA := BRow_lit (w.alloc (.cells #[.string smallT.ty, .string smallT.cs, .string smallT.id, .string smallT.loc, .int .i64 smallT.how, .slice none 0 0, .slice (some ⟨w.heap.size + 1 + 1 + 1, 0, none⟩) 2 2] 25)) bodyA _ rfl 5 (38, 39) (w.heap.size + 1) (by simp)
  have hB := BRow_lit ((w.alloc (.cells #[.string smallT.ty, .string smallT.cs, .string smallT.id, .string smallT.loc, .int .i64 smallT.how, .slice none 0 0, .slice (some ⟨w.heap.size + 1 + 1 + 1, 0, none⟩) 2 2] 25)).alloc (.cells (bv bodyA).toArray 5 (38, 39))) [1, 2, 3] _ rfl 5 (0, 0) (w.heap.size + 1 + 1) (by simp)
  refine ⟨lens _ (by decide), ⟨by decide, by decide, fun _ => rfl⟩, fun h => absurd rfl h, ⟨by decide, by decide, fun h => by cases h⟩, KAt.mk fun i hi => ?_⟩
  have hi2 : i < 2 := hi
  match i, hi2 with
  | 0, _ =>
   refine ⟨some ⟨w.heap.size + 1, 0, none⟩, 38, none, 0, ⟨?_, ?_, ?_, ?_, ?_, ?_, ?_⟩, lens _ (by decide), ⟨by decide, by decide, fun h => by cases h⟩, ?_, ⟨by decide, by decide, fun _ => rfl⟩, rfl⟩
   ·exact cell_lits _ _ _ _ 0 _ _ (by simp) rfl rfl
   ·exact cell_lits _ _ _ _ 1 _ _ (by simp) rfl rfl
   ·exact cell_lits _ _ _ _ 2 _ _ (by simp) rfl rfl
   ·exact cell_lits _ _ _ _ 3 _ _ (by simp) rfl rfl
   ·exact cell_lits _ _ _ _ 4 _ _ (by simp) rfl rfl
   ·exact cell_lits _ _ _ _ 5 _ _ (by simp) rfl rfl
   ·exact cell_lits _ _ _ _ 6 _ _ (by simp) rfl rfl
   ·exact hA.under (((Below.refl _ _).alloc (Nat.le_refl _) _).alloc (by simp) _)
  | 1, _ =>
   refine ⟨some ⟨w.heap.size + 1 + 1, 0, none⟩, 3, none, 0, ⟨?_, ?_, ?_, ?_, ?_, ?_, ?_⟩, lens _ (by decide), ⟨by decide, by decide, fun h => by cases h⟩, ?_, ⟨by decide, by decide, fun _ => rfl⟩, rfl⟩
   ·exact cell_lits _ _ _ _ 7 _ _ (by simp) rfl rfl
   ·exact cell_lits _ _ _ _ 8 _ _ (by simp) rfl rfl
   ·exact cell_lits _ _ _ _ 9 _ _ (by simp) rfl rfl
   ·exact cell_lits _ _ _ _ 10 _ _ (by simp) rfl rfl
   ·exact cell_lits _ _ _ _ 11 _ _ (by simp) rfl rfl
   ·exact cell_lits _ _ _ _ 12 _ _ (by simp) rfl rfl
   ·exact cell_lits _ _ _ _ 13 _ _ (by simp) rfl rfl
   ·exact hB.under ((Below.refl _ _).alloc (Nat.le_refl _) _)
 ·exact ((((Below.refl _ w).alloc (Nat.le_refl _) _).alloc (by simp) _).alloc (by simp; omega) _).alloc (by simp; omega) _
end Go.Proofs.YtbbfcbodhmeanaaGreatDoor



namespace Go.Proofs.YtbbfcbodhmeanaaGreatDoor
open Go.ChangeShapes Go.WideShapes Go.ChangeAt Go.RowKit
theorem KAt.up {w : World} : ∀ (f : Nat) (a : Option Addr) (l : List PT), KAt w f a l → KAt w (f + 1) a l
 | 0, a, l, h => fun hne => absurd h hne
 | f + 1, a, l, h => fun hne => by
  obtain ⟨b, o, e, hc⟩ := h hne
  refine ⟨b, o, e, fun i hi => ?_⟩
  obtain ⟨pb, cb, pk, ck, h1, h2⟩ := hc i hi
  exact ⟨pb, cb, pk, ck, h1, h2.1, h2.2.1, h2.2.2.1, h2.2.2.2.1, KAt.up f _ _ h2.2.2.2.2⟩
theorem part_under : ∃ f0 f1 f2 f3 f4 f5 f6 : Field, Tryz.prog.underlying 25 = some (.struct #[f0, f1, f2, f3, f4, f5, f6]) ∧
  (f0.offset = 0 ∧ f1.offset = 1 ∧ f2.offset = 2 ∧ f3.offset = 3 ∧ f4.offset = 4 ∧ f5.offset = 5 ∧ f6.offset = 6) ∧
  (f0.type = 9 ∧ f1.type = 9 ∧ f2.type = 9 ∧ f3.type = 9 ∧ f4.type = 3 ∧ f5.type = 22 ∧ f6.type = 23) :=
 ⟨_, _, _, _, _, _, _, Tryz.underlying25, ⟨rfl, rfl, rfl, rfl, rfl, rfl, rfl⟩, ⟨rfl, rfl, rfl, rfl, rfl, rfl, rfl⟩⟩
theorem bytes_open {H : Type} {enc : TypeId × Value → H} {W : World} {held : Bool} {fuel : Nat} {cs : List Value} {x : DataW H × List MemPlace}
  (h : DataW.trod enc Tryz.prog W 0 (fun _ => true) held fuel 22 cs = some x) :
  ∃ (a : Option Addr) (c : Nat) (L : List UInt8), cs = [.slice a L.length c] ∧ L.length ≤ c ∧ c ≤ maxLen ∧ (a = none → c = 0) ∧ BRow W a L := by
 rcases open_ints Tryz.underlying22 Tryz.underlying5 (by kernel_rfl) h with ⟨hcs, _⟩ | ⟨a, l, c, zs, hcs, _, hl, hm, hz, _, hcell, hwz⟩
 ·exact ⟨none, 0, [], hcs, Nat.le_refl _, by decide, fun _ => rfl, fun h => absurd rfl h⟩
 ·obtain ⟨L, e, h1, h2, h3, h4⟩ := isRow_bytes (w := W) (a := some a) (len := l) (cap := c) (zs := zs) (.inr ⟨_, rfl, hl, hm, by simpa using hz, hcell, hwz⟩)
  subst e
  exact ⟨some a, c, L, hcs, h1, h2, (fun h => by cases h), h4⟩
set_option maxRecDepth 100000 in
theorem part_cells {H : Type} {enc : TypeId × Value → H} {W : World} {held : Bool} : ∀ (fuel : Nat) (cs : List Value) (x : DataW H × List MemPlace),
  DataW.trod enc Tryz.prog W 0 (fun _ => true) held fuel 25 cs = some x →
  ∃ (p : PT) (pb : Option Addr) (cb : Nat) (pk : Option Addr) (ck : Nat), cs = [.string p.ty, .string p.cs, .string p.id, .string p.loc, .int .i64 p.how, .slice pb p.body.length cb, .slice pk p.kids.length ck] ∧ PHeld W fuel p pb cb pk ck := by
 intro fuel
 induction fuel using Nat.strongRecOn with
 | _ fuel ih =>
  intro cs x h
  obtain ⟨f0, f1, f2, f3, f4, f5, f6, hu, ⟨o0, o1, o2, o3, o4, o5, o6⟩, ⟨t0, t1, t2, t3, t4, t5, t6⟩⟩ := part_under
  obtain ⟨xs, n, hfu, _, hlen, hxl, hf⟩ := DataW.trod_struct hu h
  have hcf : Tryz.prog.cellsOf 25 = 7 := by kernel_rfl
  have cs1 : Tryz.prog.cellsOf 9 = 1 := by kernel_rfl
  have ci1 : Tryz.prog.cellsOf 3 = 1 := by kernel_rfl
  have cb1 : Tryz.prog.cellsOf 22 = 1 := by kernel_rfl
  have cp1 : Tryz.prog.cellsOf 23 = 1 := by kernel_rfl
  rw [hcf] at hlen
  match xs, hxl, cs, hlen with
  | [y0, y1, y2, y3, y4, y5, y6], _, [v0, v1, v2, v3, v4, v5, v6], _ =>
   have g0 := hf 0 f0 rfl
   have g1 := hf 1 f1 rfl
   have g2 := hf 2 f2 rfl
   have g3 := hf 3 f3 rfl
   have g4 := hf 4 f4 rfl
   have g5 := hf 5 f5 rfl
   have g6 := hf 6 f6 rfl
   rw [t0, o0, cs1] at g0
   rw [t1, o1, cs1] at g1
   rw [t2, o2, cs1] at g2
   rw [t3, o3, cs1] at g3
   rw [t4, o4, ci1] at g4
   rw [t5, o5, cb1] at g5
   rw [t6, o6, cp1] at g6
   simp only [List.drop_zero, List.drop_succ_cons, List.take_succ_cons, List.take_zero, List.getElem?_cons_zero, List.getElem?_cons_succ] at g0 g1 g2 g3 g4 g5 g6
   obtain ⟨s0, e0, _, l0⟩ := DataW.trod_string Tryz.underlying9 g0
   obtain ⟨s1, e1, _, l1⟩ := DataW.trod_string Tryz.underlying9 g1
   obtain ⟨s2, e2, _, l2⟩ := DataW.trod_string Tryz.underlying9 g2
   obtain ⟨s3, e3, _, l3⟩ := DataW.trod_string Tryz.underlying9 g3
   obtain ⟨z, e4, _, hz⟩ := DataW.trod_int Tryz.underlying3 g4
   obtain ⟨pb, cb, body, e5, b1, b2, b3, b4⟩ := bytes_open g5
   have hz2 : -9223372036854775808 ≤ z ∧ z ≤ 9223372036854775807 := by
    simp only [Lit.wf, Bool.and_eq_true, decide_eq_true_eq] at hz
    exact hz
   have hbl : body.length ≤ maxLen := Nat.le_trans b1 b2
   rcases DataW.trod_slice Tryz.underlying23 g6 with ⟨e6, _⟩ | ⟨a, len, cap, elems, rest, m, hm, e6, _, _, hlc, hcm, hel, hev, _, _⟩
   ·refine ⟨⟨s0, s1, s2, s3, z, body, []⟩, pb, cb, none, 0, ?_, ⟨l0, l1, l2, l3, hz2.1, hz2.2, hbl, Nat.zero_le _⟩, ⟨b1, b2, b3⟩, b4, ⟨Nat.le_refl _, by decide, fun _ => rfl⟩, KAt.nil _ _ _⟩
    rw [(List.cons.inj e0).1, (List.cons.inj e1).1, (List.cons.inj e2).1, (List.cons.inj e3).1, (List.cons.inj e4).1, (List.cons.inj e5).1, (List.cons.inj e6).1]
    rfl
   ·have hspot : 0 < len → a.spot = none := fun hpos => by
     have h1 := hev 0 hpos
     rw [hcf, List.getElem?_eq_getElem (by omega)] at h1
     obtain ⟨ce, hce, hte⟩ := Option.bind_eq_some_iff.1 h1
     obtain ⟨q, qb, qc, qk, qd, e, hq⟩ := ih m (by omega) ce _ hte
     obtain ⟨_, _, hcc⟩ := World.cells?_some hce
     subst e
     have := hcc 0 (by omega)
     simpa [Addr.add] using World.cell?_spot (this.trans rfl)
    have each : ∀ i, i < len → ∃ q : PT, PAt W m a.block (a.off + i * 7) q := fun i hi => by
     have h1 := hev i hi
     rw [hcf, List.getElem?_eq_getElem (by omega)] at h1
     obtain ⟨ce, hce, hte⟩ := Option.bind_eq_some_iff.1 h1
     obtain ⟨q, qb, qc, qk, qd, e, hq⟩ := ih m (by omega) ce _ hte
     obtain ⟨_, _, hcc⟩ := World.cells?_some hce
     subst e
     have hs := hspot (by omega)
     obtain ⟨b, o, spot⟩ := a
     simp only at hs
     subst hs
     refine ⟨q, qb, qc, qk, qd, ?_, hq⟩
     have hc : ∀ j, j < 7 → W.cell? ⟨b, o + i * 7 + j, none⟩ = [Value.string q.ty, .string q.cs, .string q.id, .string q.loc, .int .i64 q.how, .slice qb q.body.length qc, .slice qk q.kids.length qd][j]? := fun j hj => by
      have := hcc j hj
      rw [Addr.add_lit, Addr.add_lit] at this
      exact this
     exact ⟨hc 0 (by omega), hc 1 (by omega), hc 2 (by omega), hc 3 (by omega), hc 4 (by omega), hc 5 (by omega), hc 6 (by omega)⟩
    haveI : Inhabited PT := ⟨pt0⟩
    obtain ⟨Q, hQ⟩ := Go.Deep.choose_lt each
    refine ⟨⟨s0, s1, s2, s3, z, body, (List.range len).map Q⟩, pb, cb, some a, cap, ?_, ⟨l0, l1, l2, l3, hz2.1, hz2.2, hbl, ?_⟩, ⟨b1, b2, b3⟩, b4, ⟨?_, hcm, fun h => by cases h⟩, ?_⟩
    ·rw [(List.cons.inj e0).1, (List.cons.inj e1).1, (List.cons.inj e2).1, (List.cons.inj e3).1, (List.cons.inj e4).1, (List.cons.inj e5).1, (List.cons.inj e6).1]
     simp
    ·simp; exact Nat.le_trans hlc hcm
    ·simp; exact hlc
    ·rw [hfu, hm]
     refine KAt.up _ _ _ fun hne => ?_
     have hpos : 0 < len := by
      rcases Nat.eq_zero_or_pos len with e | e
      ·subst e; exact absurd rfl hne
      ·exact e
     have hs := hspot hpos
     obtain ⟨b, o, spot⟩ := a
     simp only at hs
     subst hs
     refine ⟨b, o, rfl, fun i hi => ?_⟩
     have hi' : i < len := by simpa using hi
     have e1 : ((List.range len).map Q).getD i pt0 = Q i := by simp [List.getD_eq_getElem?_getD, hi']
     show PAt W m b (o + i * 7) (((List.range len).map Q).getD i pt0)
     rw [e1]
     exact hQ i hi'
set_option maxRecDepth 100000 in
theorem part_open {H : Type} {enc : TypeId × Value → H} {W : World} {base : Nat} {held : Bool} {fuel : Nat} {v : Value} {x : DataW H × List MemPlace}
  (hv : Value.okWide Tryz.prog W .any base 25 v) (h : DataW.trod enc Tryz.prog W 0 (fun _ => true) held fuel 25 v.cells.toList = some x) :
  ∃ (p : PT) (pb : Option Addr) (cb : Nat) (pk : Option Addr) (ck F : Nat), v = .agg #[.string p.ty, .string p.cs, .string p.id, .string p.loc, .int .i64 p.how, .slice pb p.body.length cb, .slice pk p.kids.length ck] ∧ PHeld W F p pb cb pk ck := by
 obtain ⟨cs, rfl, hsz⟩ := okWide_struct Tryz.underlying25 hv
 obtain ⟨p, pb, cb, pk, ck, e, hp⟩ := part_cells fuel _ x h
 refine ⟨p, pb, cb, pk, ck, fuel, ?_, hp⟩
 congr 1
 apply Array.toList_inj.1
 exact e
end Go.Proofs.YtbbfcbodhmeanaaGreatDoor



namespace Go.Proofs.YtbbfcbodhmeanaaGreatDoor
open Go.RowKit
def flatP : Nat → PT → List PT
 | 0, _ => []
 | f + 1, p => p :: p.kids.flatMap (flatP f)
theorem flatP_succ (f : Nat) (p : PT) : flatP (f + 1) p = p :: p.kids.flatMap (flatP f) := by rw [flatP]
end Go.Proofs.YtbbfcbodhmeanaaGreatDoor



namespace Go.Proofs.YtbbfcbodhmeanaaGreatDoor
theorem grow_fst (f : Nat) : ∀ (ks : List PT) (acc : List (PT × Option Nat)), (∀ k ∈ ks, (tree f k).map (·.1) = flatP f k) → (grow f acc ks).map (·.1) = acc.map (·.1) ++ ks.flatMap (flatP f)
 | [], acc, _ => by simp [grow_nil]
 | k :: ks, acc, h => by
  rw [grow_cons, grow_fst f ks _ (fun x hx => h x (by simp [hx])), List.map_append, List.map_map, List.flatMap_cons, ← h k (by simp), List.append_assoc]
  rfl
theorem tree_flat : ∀ (f : Nat) (p : PT), (tree f p).map (·.1) = flatP f p
 | 0, _ => rfl
 | f + 1, p => by rw [tree_grow, grow_fst f p.kids _ (fun k _ => tree_flat f k), flatP_succ]; rfl
end Go.Proofs.YtbbfcbodhmeanaaGreatDoor



namespace Go.Proofs.YtbbfcbodhmeanaaGreatDoor
open Go.RowKit
def RdAt (w : World) (g : Nat) (p : ByteArray) (k : Int) : Prop := w.heap[g]? = some (.cells #[.string p, .int .i64 k] 121)
theorem RdAt.page {w : World} {g : Nat} {p : ByteArray} {k : Int} (h : RdAt w g p k) : w.cell? ⟨g, 0, none⟩ = some (.string p) := (cell_of_row w g 0 #[.string p, .int .i64 k] 121 (0, 0) h).trans rfl
theorem RdAt.at_ {w : World} {g : Nat} {p : ByteArray} {k : Int} (h : RdAt w g p k) : w.cell? ⟨g, 1, none⟩ = some (.int .i64 k) := (cell_of_row w g 1 #[.string p, .int .i64 k] 121 (0, 0) h).trans rfl
theorem RdAt.lt {w : World} {g : Nat} {p : ByteArray} {k : Int} (h : RdAt w g p k) : g < w.heap.size := (Array.getElem?_eq_some_iff.1 h).1
theorem RdAt.frozen {w : World} {g : Nat} {p : ByteArray} {k : Int} (h : RdAt w g p k) (o : Nat) : w.frozen? ⟨g, o, none⟩ = false := by simp [World.frozen?, show w.heap[g]? = _ from h]
theorem RdAt.set {w : World} {g : Nat} {p : ByteArray} {k : Int} (h : RdAt w g p k) (m : Int) : RdAt (w.setCell ⟨g, 1, none⟩ (.int .i64 m)) g p m := by
 unfold RdAt
 rw [heap_setCell_same w g 1 #[.string p, .int .i64 k] 121 (.int .i64 m) h]
 rfl
theorem RdAt.below {w w' : World} {g : Nat} {p : ByteArray} {k : Int} (h : RdAt w g p k) (hb : Below w.heap.size w w') : RdAt w' g p k := by
 unfold RdAt
 rw [hb.block g h.lt]
 exact h
theorem RdAt.drew {w : World} {g : Nat} {p : ByteArray} {k : Int} (h : RdAt w g p k) : RdAt w.drew g p k := h
theorem rd_new (w : World) (p : ByteArray) (k : Int) : RdAt (w.alloc (.cells #[.string p, .int .i64 k] 121)) w.heap.size p k := by
 show (w.heap.push _)[w.heap.size]? = _
 rw [Array.getElem?_push, if_pos rfl]
theorem BRow.moved {w : World} {q : Option Addr} {l : List UInt8} (h : BRow w q l) {g : Nat} {p : ByteArray} {k : Int} (hc : RdAt w g p k) (v : Value) : BRow (w.setCell ⟨g, 1, none⟩ v) q l := by
 intro hne
 obtain ⟨b, o, e, hl⟩ := h hne
 refine ⟨b, o, e, fun i hi => ?_⟩
 have h1 := hl i hi
 rw [World.cell?_setCell_other _ _ _ _ (fun e => by rw [← e, hc.at_] at h1; cases h1)]
 exact h1
theorem set1_size (w : World) (g : Nat) (v : Value) : (w.setCell ⟨g, 1, none⟩ v).heap.size = w.heap.size := by simp [World.setCell]
def Moves (w : World) (g : Nat) (m : Int) (w' : World) : Prop := Below w.heap.size (w.setCell ⟨g, 1, none⟩ (.int .i64 m)) w'
theorem Moves.rd {w w' : World} {g : Nat} {p : ByteArray} {k m : Int} (h : Moves w g m w') (hc : RdAt w g p k) : RdAt w' g p m :=
 (hc.set m).below (by rw [set1_size]; exact h)
theorem Moves.size {w w' : World} {g : Nat} {m : Int} (h : Moves w g m w') : w.heap.size ≤ w'.heap.size := by
 have h1 : Below w.heap.size (w.setCell ⟨g, 1, none⟩ (.int .i64 m)) w' := h
 have h2 := h1.size
 rw [set1_size] at h2
 exact h2
theorem Moves.block {w w' : World} {g : Nat} {m : Int} (h : Moves w g m w') (b : Nat) (hb : b < w.heap.size) (hg : b ≠ g) : w'.heap[b]? = w.heap[b]? := by
 have h1 : Below w.heap.size (w.setCell ⟨g, 1, none⟩ (.int .i64 m)) w' := h
 rw [h1.block b hb, Below.heap_setCell _ _ _ _ hg]
theorem Moves.trans {w w1 w2 : World} {g : Nat} {p : ByteArray} {n m k : Int} (h1 : Moves w g m w1) (h2 : Moves w1 g k w2) (hc : RdAt w g p n) : Moves w g k w2 := by
 have c1 := h1.rd hc
 have c2 := h2.rd c1
 have b1 : Below w.heap.size (w.setCell ⟨g, 1, none⟩ (.int .i64 m)) w1 := h1
 have b2 : Below w1.heap.size (w1.setCell ⟨g, 1, none⟩ (.int .i64 k)) w2 := h2
 refine ⟨b2.os.trans b1.os, b2.tape.trans b1.tape, b2.output.trans b1.output, ?_, fun i hi => ?_⟩
 ·rw [set1_size]
  exact Nat.le_trans h1.size h2.size
 ·by_cases e : i = g
  ·subst e
   rw [show w2.heap[i]? = _ from c2, show (w.setCell ⟨i, 1, none⟩ (.int .i64 k)).heap[i]? = _ from hc.set k]
  ·rw [b2.block i (Nat.lt_of_lt_of_le hi h1.size), Below.heap_setCell _ _ _ _ e, b1.block i hi, Below.heap_setCell _ _ _ _ e, Below.heap_setCell _ _ _ _ e]
theorem Moves.then {w w1 w2 : World} {g : Nat} {m : Int} (h1 : Moves w g m w1) (h2 : Below w1.heap.size w1 w2) : Moves w g m w2 := by
 have b1 : Below w.heap.size (w.setCell ⟨g, 1, none⟩ (.int .i64 m)) w1 := h1
 exact b1.trans (h2.mono h1.size)
theorem Moves.base {w0 w w' : World} {g : Nat} {m : Int} (h : Moves w g m w') (hb : Below w0.heap.size w0 w) (hg : w0.heap.size ≤ g) : Below w0.heap.size w0 w' :=
 (hb.setCell (p := ⟨g, 1, none⟩) hg (.int .i64 m)).trans (h.mono hb.size)
theorem Moves.owns {w w' : World} {g : Nat} {m : Int} (h : Moves w g m w') {B e s k : Nat} {v : Value} {xs : List Value} (ho : w.ownsRow B e s v k xs) (hB : g < B) : w'.ownsRow B e s v k xs := by
 have h1 := ownsRow_setCell_below ho (a := ⟨g, 1, none⟩) hB (.int .i64 m)
 exact ownsRow_below h1 (by rw [set1_size]; exact h)
theorem Moves.bytes {w w' : World} {g : Nat} {p : ByteArray} {k m : Int} (h : Moves w g m w') (hc : RdAt w g p k) {q : Option Addr} {l : List UInt8} (hr : BRow w q l) : BRow w' q l :=
 (hr.moved hc (.int .i64 m)).below (by rw [set1_size]; exact h)
theorem Moves.still {w : World} {g : Nat} {p : ByteArray} {k : Int} (hc : RdAt w g p k) : Moves w g k w := by
 unfold Moves
 refine ⟨rfl, rfl, rfl, by simp [World.setCell], fun i hi => ?_⟩
 by_cases e : i = g
 ·subst e
  rw [show w.heap[i]? = _ from hc, show (w.setCell ⟨i, 1, none⟩ (.int .i64 k)).heap[i]? = _ from hc.set k]
 ·rw [Below.heap_setCell _ _ _ _ e]
theorem Moves.of_set {w : World} {g : Nat} {m : Int} : Moves w g m (w.setCell ⟨g, 1, none⟩ (.int .i64 m)) := by
 unfold Moves
 have := Below.refl w.heap.size (w.setCell ⟨g, 1, none⟩ (.int .i64 m))
 exact this
end Go.Proofs.YtbbfcbodhmeanaaGreatDoor


/- Plain facts on parts: two parts put into one: they are there as they were, one deeper. No program. -/
import Derived.Test.YtnmmlbgadibimabPlainW
namespace Go.Proofs.Ytnmmlbgadibimab

def mixed : ByteArray := ⟨#[109, 117, 108, 116, 105, 112, 97, 114, 116, 47, 109, 105, 120, 101, 100]⟩
def wrapT (p q : PT) : PT := ⟨mixed, ⟨#[]⟩, ⟨#[]⟩, ⟨#[]⟩, 0, [], [p, q]⟩

theorem lev_up : ∀ (n : Nat) (p : PT), lev n p = true → lev (n + 1) p = true
  | 0, p, h => by rw [lev] at h; cases h
  | n + 1, p, h => by
    rw [lev_succ, List.all_eq_true] at h ⊢
    intro k hk
    exact lev_up n k (h k hk)
theorem bad_zero : ∀ (L : List (PT × Int)), (∀ x ∈ L, chkA x.1 = 0) → firstBad L = 0
  | [], _ => rfl
  | x :: L, h => by rw [firstBad, if_pos (h x (by simp))]; exact bad_zero L fun y hy => h y (by simp [hy])
theorem places_of (p : PT) (h : lev 3 p = true) (h12 : (tree 3 p).length ≤ 12) (hb : ∀ x ∈ tree 3 p, chkA x.1 = 0) : placesP p = (0, (tree 3 p).map (abs 0 (-1))) := by
  have hs := places_spec p
  rw [tree_fuel 3 p h 4 (by omega), if_pos ⟨h, h12⟩] at hs
  have hz : firstBad ((tree 3 p).map (abs 0 (-1))) = 0 := bad_zero _ fun x hx => by
    obtain ⟨y, hy, rfl⟩ := List.mem_map.1 hx
    exact hb y hy
  unfold placesP
  rw [hs]
  simp only
  rw [if_pos hz]

theorem wraps (p q : PT) (h : (placesP (wrapT p q)).1 = 0) :
    (placesP p).1 = 0 ∧ (placesP q).1 = 0 ∧ (placesP p).2.length + (placesP q).2.length + 1 ≤ 12 ∧
    (placesP (wrapT p q)).2 = (wrapT p q, -1) :: ((placesP p).2.map (fun x => (x.1, x.2 + 1)) ++ (placesP q).2.map (fun x => (x.1, if 0 ≤ x.2 then x.2 + 1 + ((placesP p).2.length : Int) else x.2 + 1))) := by
  obtain ⟨hl, h12, hL, hb⟩ := places_ok _ h
  have hl2 : lev 2 p = true ∧ lev 2 q = true := by
    rw [lev_succ, List.all_eq_true] at hl
    exact ⟨hl p (by simp [wrapT]), hl q (by simp [wrapT])⟩
  have hT : tree 3 (wrapT p q) = (wrapT p q, none) :: ((tree 3 p).map (sub 1) ++ (tree 3 q).map (sub (1 + (tree 3 p).length))) := by
    rw [tree_fuel 2 p hl2.1 3 (by omega), tree_fuel 2 q hl2.2 3 (by omega), tree_grow]
    show grow 2 [(wrapT p q, none)] [p, q] = _
    rw [grow_cons, grow_cons, grow_nil]
    simp [Nat.add_comm]
  rw [hL] at hb
  have hbe := bad_each _ hb
  rw [hT] at h12 hbe
  simp only [List.length_cons, List.length_append, List.length_map] at h12
  have sub1 : ∀ (n : Nat) (x : PT × Option Nat), (sub n x).1 = x.1 := fun n x => rfl
  have cp : ∀ x ∈ tree 3 p, chkA x.1 = 0 := fun x hx => hbe (abs 0 (-1) (sub 1 x)) (List.mem_map.2 ⟨sub 1 x, by simp only [List.mem_cons, List.mem_append, List.mem_map]; exact .inr (.inl ⟨x, hx, rfl⟩), rfl⟩)
  have cq : ∀ x ∈ tree 3 q, chkA x.1 = 0 := fun x hx => hbe (abs 0 (-1) (sub (1 + (tree 3 p).length) x)) (List.mem_map.2 ⟨sub _ x, by simp only [List.mem_cons, List.mem_append, List.mem_map]; exact .inr (.inr ⟨x, hx, rfl⟩), rfl⟩)
  have ep := places_of p (lev_up 2 p hl2.1) (by omega) cp
  have eq := places_of q (lev_up 2 q hl2.2) (by omega) cq
  refine ⟨by rw [ep], by rw [eq], by rw [ep, eq]; simp only [List.length_map]; omega, ?_⟩
  rw [hL, hT, ep, eq]
  simp only [List.map_cons, List.map_append, List.map_map, List.length_map]
  congr 1
  congr 1
  · apply List.map_congr_left
    intro x _
    obtain ⟨x, j⟩ := x
    cases j with
    | none => simp [abs, sub]
    | some j => simp [abs, sub]
  · apply List.map_congr_left
    intro x _
    obtain ⟨x, j⟩ := x
    cases j with
    | none => simp [abs, sub]
    | some j => simp [abs, sub]; omega
end Go.Proofs.Ytnmmlbgadibimab

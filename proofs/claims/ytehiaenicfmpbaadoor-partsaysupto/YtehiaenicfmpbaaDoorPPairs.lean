/- Pairs of parts that are left to hold against each other, as they lie in memory. No function of the program. -/
import Derived.Test.YtehiaenicfmpbaaDoorPMem
import Derived.Test.YtehiaenicfmpbaaDoorPlainZ
import Derived.WalkSmall
import Derived.Laws.OwnMore
namespace Go.Proofs.YtehiaenicfmpbaaDoor
open Go.RowKit

theorem cnts_append (l m : List (PT × PT)) : cnts (l ++ m) = cnts l + cnts m := by simp [cnts]
theorem cnts_zip : ∀ (a b : List PT), a.length = b.length → cnts (a.zip b) = (a.map cnt).sum
  | [], [], _ => rfl
  | [], _ :: _, h => by simp at h
  | _ :: _, [], h => by simp at h
  | x :: a, y :: b, h => by
    have := cnts_zip a b (by simpa using h)
    simp only [cnts, List.zip_cons_cons, List.map_cons, List.sum_cons] at this ⊢
    rw [this]
theorem cnts_take (l : List (PT × PT)) (k : Nat) : cnts (l.take k) ≤ cnts l := by
  have h := cnts_append (l.take k) (l.drop k)
  rw [List.take_append_drop] at h
  omega
theorem zip_same : ∀ (a b : List PT), a.length = b.length → ((∀ x ∈ a.zip b, x.1 = x.2) ↔ a = b)
  | [], [], _ => by simp
  | [], _ :: _, h => by simp at h
  | _ :: _, [], h => by simp at h
  | x :: a, y :: b, h => by
    have := zip_same a b (by simpa using h)
    rw [List.zip_cons_cons, List.forall_mem_cons, this]
    simp
theorem zip_snoc (a b : List PT) (k : Nat) (ha : k < a.length) (hb : k < b.length) : (a.zip b).take (k + 1) = (a.zip b).take k ++ [(a.getD k pt0, b.getD k pt0)] := by
  rw [List.take_add_one]
  congr 1
  have hl : k < (a.zip b).length := by rw [List.length_zip]; omega
  rw [List.getElem?_eq_getElem hl, List.getElem_zip]
  simp [List.getD_eq_getElem?_getD, List.getElem?_eq_getElem ha, List.getElem?_eq_getElem hb]

/-- Pairs of addresses. -/
abbrev PX2 := (Nat × Nat) × (Nat × Nat)
def prv (X : List PX2) : List Value := X.flatMap fun x => [.pointer (some ⟨x.1.1, x.1.2, none⟩), .pointer (some ⟨x.2.1, x.2.2, none⟩)]
theorem prv_length : ∀ X : List PX2, (prv X).length = X.length * 2
  | [] => rfl
  | x :: X => by show ([_, _] ++ prv X).length = _; rw [List.length_append, prv_length X]; simp; omega
theorem prv_snoc (X : List PX2) (x : PX2) : prv (X ++ [x]) = prv X ++ [.pointer (some ⟨x.1.1, x.1.2, none⟩), .pointer (some ⟨x.2.1, x.2.2, none⟩)] := by simp [prv]
/-- These addresses are those of the parts of the plain list. -/
def PrLs (w : World) (X : List PX2) (L : List (PT × PT)) : Prop :=
  X.length = L.length ∧ ∀ (i : Nat) x q, X[i]? = some x → L[i]? = some q → (∃ f, PAt w f x.1.1 x.1.2 q.1) ∧ ∃ f, PAt w f x.2.1 x.2.2 q.2
theorem PrLs.nil (w : World) : PrLs w [] [] := ⟨rfl, fun i x q h => by simp at h⟩
theorem PrLs.snoc {w : World} {X : List PX2} {L : List (PT × PT)} (h : PrLs w X L) {b o b' o' : Nat} {p q : PT} {f f' : Nat} (hp : PAt w f b o p) (hq : PAt w f' b' o' q) : PrLs w (X ++ [((b, o), (b', o'))]) (L ++ [(p, q)]) := by
  refine ⟨by rw [List.length_append, List.length_append, h.1]; rfl, fun i x r hx hr => ?_⟩
  by_cases hi : i < X.length
  · rw [List.getElem?_append_left hi] at hx
    rw [List.getElem?_append_left (by rw [← h.1]; exact hi)] at hr
    exact h.2 i x r hx hr
  · rw [List.getElem?_append_right (by omega)] at hx
    rw [List.getElem?_append_right (by rw [← h.1]; omega), ← h.1] at hr
    cases hd : i - X.length with
    | zero =>
      rw [hd] at hx hr
      obtain rfl := Option.some.inj hx
      obtain rfl := Option.some.inj hr
      exact ⟨⟨f, hp⟩, f', hq⟩
    | succ n => rw [hd] at hx; simp at hx
/-- The last pair of a list, and what is ahead of it. -/
theorem PrLs.last {w wr : World} {B e : Nat} {X : List PX2} {L : List (PT × PT)} {v : Value} (h : PrLs w X L) (hne : L ≠ []) (ho : wr.ownsRow B e 2 v L.length (prv X)) :
    ∃ (L' : List (PT × PT)) (x y : PT) (X' : List PX2) (bx ox bY oY f f' g cap : Nat), L = L' ++ [(x, y)] ∧ v = .slice (some ⟨g, 0, none⟩) (L'.length + 1) cap ∧ PrLs w X' L' ∧ PAt w f bx ox x ∧ PAt w f' bY oY y ∧
      wr.ownsRow B e 2 (.slice (some ⟨g, 0, none⟩) L'.length cap) L'.length (prv X') ∧ wr.cell? ⟨g, L'.length * 2, none⟩ = some (.pointer (some ⟨bx, ox, none⟩)) ∧ wr.cell? ⟨g, L'.length * 2 + 1, none⟩ = some (.pointer (some ⟨bY, oY, none⟩)) ∧ L'.length + 1 ≤ cap := by
  rcases List.eq_nil_or_concat L with hL | ⟨L', ⟨x, y⟩, hL⟩
  · exact absurd hL hne
  · rw [List.concat_eq_append] at hL
    subst hL
    rcases List.eq_nil_or_concat X with hX | ⟨X', ⟨⟨bx, ox⟩, ⟨bY, oY⟩⟩, hX⟩
    · have := h.1; rw [hX] at this; simp at this
    · rw [List.concat_eq_append] at hX
      subst hX
      have hlen : X'.length = L'.length := by have := h.1; simpa using this
      rw [List.length_append] at ho
      have hl1 : L'.length + [(x, y)].length = L'.length + 1 := rfl
      rw [hl1] at ho
      obtain ⟨g, cap, rfl⟩ : ∃ g cap, v = .slice (some ⟨g, 0, none⟩) (L'.length + 1) cap := by
        rcases ho.2 with ⟨_, h0⟩ | ⟨g, cap, cur, hv, _⟩
        · cases h0
        · exact ⟨g, cap, hv⟩
      have hlast := h.2 L'.length ((bx, ox), (bY, oY)) (x, y) (by rw [List.getElem?_append_right (by omega), hlen]; simp) (by rw [List.getElem?_append_right (Nat.le_refl _)]; simp)
      obtain ⟨⟨f, hf⟩, f', hf'⟩ := hlast
      have hX' : PrLs w X' L' := by
        refine ⟨hlen, fun i a q ha hq => ?_⟩
        have hi := (List.getElem?_eq_some_iff.1 ha).1
        exact h.2 i a q (by rw [List.getElem?_append_left hi]; exact ha) (by rw [List.getElem?_append_left (by omega)]; exact hq)
      have hcap : L'.length + 1 ≤ cap := by
        rcases ho.2 with ⟨h0, _⟩ | ⟨g', cap', cur, hv, _, _, hn, _⟩
        · cases h0
        · cases hv; exact hn
      refine ⟨L', x, y, X', bx, ox, bY, oY, f, f', g, cap, rfl, rfl, hX', hf, hf', ?_, ?_, ?_, hcap⟩
      · rw [prv_snoc] at ho
        exact ownsRow_pop (by rw [prv_length, hlen]) ho
      · rw [ho.cellAt _ (by omega), prv_snoc, List.getElem?_append_right (by rw [prv_length, hlen]; exact Nat.le_refl _), prv_length, hlen, Nat.sub_self]; rfl
      · rw [ho.cellAt _ (by omega), prv_snoc, List.getElem?_append_right (by rw [prv_length, hlen]; omega), prv_length, hlen, Nat.add_sub_cancel_left]; rfl
end Go.Proofs.YtehiaenicfmpbaaDoor

/- Plain facts on parts: what is put into the list of places are the part and all in it, depth first, each with the number of the one that it is in, if they are few enough and not too deep. No program. -/
import Derived.Test.YtehiaenicfmpbaaDoorPlainK
namespace Go.Proofs.YtehiaenicfmpbaaDoor

/-- What is in a part that lies behind others: one number more. -/
def sub (n : Nat) (x : PT × Option Nat) : PT × Option Nat := (x.1, some (match x.2 with | none => 0 | some j => j + n))
def abs (n : Nat) (inn : Int) (x : PT × Option Nat) : PT × Int := (x.1, match x.2 with | none => inn | some j => ((n + j : Nat) : Int))
/-- A part and all in it, depth first, each with the number of the one that it is in; none: the first. -/
def tree : Nat → PT → List (PT × Option Nat)
  | 0, _ => []
  | f + 1, p => p.kids.foldl (fun acc k => acc ++ (tree f k).map (sub acc.length)) [(p, none)]
def grow (f : Nat) (acc : List (PT × Option Nat)) (ks : List PT) : List (PT × Option Nat) := ks.foldl (fun acc k => acc ++ (tree f k).map (sub acc.length)) acc
theorem grow_nil (f : Nat) (acc : List (PT × Option Nat)) : grow f acc [] = acc := rfl
theorem grow_cons (f : Nat) (acc : List (PT × Option Nat)) (k : PT) (ks : List PT) : grow f acc (k :: ks) = grow f (acc ++ (tree f k).map (sub acc.length)) ks := rfl
theorem tree_grow (f : Nat) (p : PT) : tree (f + 1) p = grow f [(p, none)] p.kids := by rw [tree]; rfl
theorem grow_le (f : Nat) : ∀ (ks : List PT) (acc : List (PT × Option Nat)), acc.length ≤ (grow f acc ks).length
  | [], acc => Nat.le_refl _
  | k :: ks, acc => by
    rw [grow_cons]
    have := grow_le f ks (acc ++ (tree f k).map (sub acc.length))
    rw [List.length_append] at this
    omega
theorem tree_pos (f : Nat) (p : PT) : 1 ≤ (tree (f + 1) p).length := by
  rw [tree_grow]; exact grow_le f p.kids [(p, none)]
/-- As many levels at most. -/
def lev : Nat → PT → Bool
  | 0, _ => false
  | n + 1, p => p.kids.all (lev n)
theorem lev_succ (n : Nat) (p : PT) : lev (n + 1) p = p.kids.all (lev n) := by rw [lev]

theorem abs_sub (n a : Nat) (inn : Int) (x : PT × Option Nat) : abs n inn (sub a x) = abs (n + a) n x := by
  obtain ⟨x, j⟩ := x
  cases j with
  | none => simp [abs, sub]
  | some j => simp only [abs, sub]; congr 1; omega

theorem putAll_spec (f : Nat) (ih : ∀ l p inn, l.length ≤ 12 → put (f + 1) l p (4 - f) inn = if lev f p = true ∧ l.length + (tree (f + 1) p).length ≤ 12 then some (l ++ (tree (f + 1) p).map (abs l.length inn)) else none) (l : List (PT × Int)) (inn : Int) :
    ∀ (ks : List PT) (acc : List (PT × Option Nat)), l.length + acc.length ≤ 12 → putAll (f + 1) (4 - f) l.length (l ++ acc.map (abs l.length inn)) ks =
      if ks.all (lev f) = true ∧ l.length + (grow (f + 1) acc ks).length ≤ 12 then some (l ++ (grow (f + 1) acc ks).map (abs l.length inn)) else none
  | [], acc, h => by rw [putAll_nil, grow_nil, if_pos ⟨rfl, h⟩]
  | k :: ks, acc, h => by
    have hk := ih (l ++ acc.map (abs l.length inn)) k l.length (by rw [List.length_append, List.length_map]; exact h)
    rw [List.length_append, List.length_map] at hk
    have hg := grow_le (f + 1) ks (acc ++ (tree (f + 1) k).map (sub acc.length))
    rw [List.length_append, List.length_map] at hg
    rw [grow_cons]
    by_cases hc : lev f k = true ∧ l.length + acc.length + (tree (f + 1) k).length ≤ 12
    · rw [if_pos hc] at hk
      rw [putAll_some _ _ _ _ _ _ _ hk]
      have e : (l ++ acc.map (abs l.length inn)) ++ (tree (f + 1) k).map (abs (l.length + acc.length) l.length) = l ++ (acc ++ (tree (f + 1) k).map (sub acc.length)).map (abs l.length inn) := by
        rw [List.map_append, List.map_map, List.append_assoc]
        congr 2
        exact List.map_congr_left fun x _ => (abs_sub _ _ _ x).symm
      rw [e, putAll_spec f ih l inn ks _ (by rw [List.length_append, List.length_map]; omega), List.all_cons, hc.1, Bool.true_and]
    · rw [if_neg hc] at hk
      rw [putAll_none _ _ _ _ _ _ hk, if_neg]
      rintro ⟨h1, h2⟩
      rw [List.all_cons, Bool.and_eq_true] at h1
      exact hc ⟨h1.1, by omega⟩

theorem put_spec : ∀ (f : Nat), f ≤ 3 → ∀ (l : List (PT × Int)) (p : PT) (inn : Int), l.length ≤ 12 →
    put (f + 1) l p (4 - f) inn = if lev f p = true ∧ l.length + (tree (f + 1) p).length ≤ 12 then some (l ++ (tree (f + 1) p).map (abs l.length inn)) else none
  | 0, _, l, p, inn, _ => by rw [put_stop _ _ _ _ _ (Or.inr (by omega)), if_neg (fun h => by have := h.1; rw [lev] at this; cases this)]
  | f + 1, hf, l, p, inn, hl => by
    by_cases hs : l.length = 12
    · rw [put_stop _ _ _ _ _ (Or.inl hs), if_neg]
      have := tree_pos (f + 1) p
      omega
    · rw [put_go _ _ _ _ _ (by omega), show 4 - (f + 1) + 1 = 4 - f from by omega]
      have := putAll_spec f (fun l p inn hl => put_spec f (by omega) l p inn hl) l inn p.kids [(p, none)] (by simp; omega)
      rw [show l ++ [(p, none)].map (abs l.length inn) = l ++ [(p, inn)] from rfl] at this
      rw [this, ← tree_grow, ← lev_succ]
/-- The list of places of a part, as the document says it. -/
theorem places_spec (p : PT) : put 4 [] p 1 (-1) = if lev 3 p = true ∧ (tree 4 p).length ≤ 12 then some ((tree 4 p).map (abs 0 (-1))) else none := by
  have := put_spec 3 (by omega) [] p (-1) (by simp)
  simpa using this
end Go.Proofs.YtehiaenicfmpbaaDoor

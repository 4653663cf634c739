/- Plain facts on parts: two parts put into one: they are there as they were, one deeper. No program. -/
import Derived.Test.YtlndhdimamnnlaaGreatDoorXmimewrapsupto28
import Derived.Test.YtlndhdimamnnlaaGreatDoorXmimewrapsupto3
import Derived.Lib.Replace
import Derived.Lib.Strings
import Derived.Lib.Bytealg
namespace Go.Proofs.YtlndhdimamnnlaaGreatDoor

def mixed : ByteArray := ⟨#[109, 117, 108, 116, 105, 112, 97, 114, 116, 47, 109, 105, 120, 101, 100]⟩
def wrapT (p q : PT) : PT := ⟨mixed, ⟨#[]⟩, ⟨#[]⟩, ⟨#[]⟩, 0, [], [p, q]⟩

theorem lev_up : ∀ (n : Nat) (p : PT), lev n p = true → lev (n + 1) p = true
  | 0, p, h => by rw [lev] at h; cases h
  | n + 1, p, h => by
    rw [lev_succ, List.all_eq_true] at h ⊢
    intro k hk
    exact lev_up n k (h k hk)
theorem bad_zero : ∀ (L : List (PT × Int)), (∀ x ∈ L, chkA x.1 = 0) → firstBad L = 0
  | [], _ => rfl
  | x :: L, h => by rw [firstBad, if_pos (h x (by simp))]; exact bad_zero L fun y hy => h y (by simp [hy])
theorem places_of (p : PT) (h : lev 3 p = true) (h12 : (tree 3 p).length ≤ 12) (hb : ∀ x ∈ tree 3 p, chkA x.1 = 0) : placesP p = (0, (tree 3 p).map (abs 0 (-1))) := by
  have hs := places_spec p
  rw [tree_fuel 3 p h 4 (by omega), if_pos ⟨h, h12⟩] at hs
  have hz : firstBad ((tree 3 p).map (abs 0 (-1))) = 0 := bad_zero _ fun x hx => by
    obtain ⟨y, hy, rfl⟩ := List.mem_map.1 hx
    exact hb y hy
  unfold placesP
  rw [hs]
  simp only
  rw [if_pos hz]

theorem wraps (p q : PT) (h : (placesP (wrapT p q)).1 = 0) :
    (placesP p).1 = 0 ∧ (placesP q).1 = 0 ∧ (placesP p).2.length + (placesP q).2.length + 1 ≤ 12 ∧
    (placesP (wrapT p q)).2 = (wrapT p q, -1) :: ((placesP p).2.map (fun x => (x.1, x.2 + 1)) ++ (placesP q).2.map (fun x => (x.1, if 0 ≤ x.2 then x.2 + 1 + ((placesP p).2.length : Int) else x.2 + 1))) := by
  obtain ⟨hl, h12, hL, hb⟩ := places_ok _ h
  have hl2 : lev 2 p = true ∧ lev 2 q = true := by
    rw [lev_succ, List.all_eq_true] at hl
    exact ⟨hl p (by simp [wrapT]), hl q (by simp [wrapT])⟩
  have hT : tree 3 (wrapT p q) = (wrapT p q, none) :: ((tree 3 p).map (sub 1) ++ (tree 3 q).map (sub (1 + (tree 3 p).length))) := by
    rw [tree_fuel 2 p hl2.1 3 (by omega), tree_fuel 2 q hl2.2 3 (by omega), tree_grow]
    show grow 2 [(wrapT p q, none)] [p, q] = _
    rw [grow_cons, grow_cons, grow_nil]
    simp [Nat.add_comm]
  rw [hL] at hb
  have hbe := bad_each _ hb
  rw [hT] at h12 hbe
  simp only [List.length_cons, List.length_append, List.length_map] at h12
  have sub1 : ∀ (n : Nat) (x : PT × Option Nat), (sub n x).1 = x.1 := fun n x => rfl
  have cp : ∀ x ∈ tree 3 p, chkA x.1 = 0 := fun x hx => hbe (abs 0 (-1) (sub 1 x)) (List.mem_map.2 ⟨sub 1 x, by simp only [List.mem_cons, List.mem_append, List.mem_map]; exact .inr (.inl ⟨x, hx, rfl⟩), rfl⟩)
  have cq : ∀ x ∈ tree 3 q, chkA x.1 = 0 := fun x hx => hbe (abs 0 (-1) (sub (1 + (tree 3 p).length) x)) (List.mem_map.2 ⟨sub _ x, by simp only [List.mem_cons, List.mem_append, List.mem_map]; exact .inr (.inr ⟨x, hx, rfl⟩), rfl⟩)
  have ep := places_of p (lev_up 2 p hl2.1) (by omega) cp
  have eq := places_of q (lev_up 2 q hl2.2) (by omega) cq
  refine ⟨by rw [ep], by rw [eq], by rw [ep, eq]; simp only [List.length_map]; omega, ?_⟩
  rw [hL, hT, ep, eq]
  simp only [List.map_cons, List.map_append, List.map_map, List.length_map]
  congr 1
  congr 1
  · apply List.map_congr_left
    intro x _
    obtain ⟨x, j⟩ := x
    cases j with
    | none => simp [abs, sub]
    | some j => simp [abs, sub]
  · apply List.map_congr_left
    intro x _
    obtain ⟨x, j⟩ := x
    cases j with
    | none => simp [abs, sub]
    | some j => simp [abs, sub]; omega
end Go.Proofs.YtlndhdimamnnlaaGreatDoor

/- Plain facts: bytes out of single bits. No program. -/
namespace Go.Proofs.YtlndhdimamnnlaaGreatDoor

def bits6 (n : Nat) : List Nat := [n / 32 % 2, n / 16 % 2, n / 8 % 2, n / 4 % 2, n / 2 % 2, n % 2]
def flat (x : List UInt8) : List Nat := x.flatMap fun c => bits6 c.toNat

theorem flat_snoc (x : List UInt8) (c : UInt8) : flat (x ++ [c]) = flat x ++ bits6 c.toNat := by simp [flat]
theorem flat_length (x : List UInt8) : (flat x).length = 6 * x.length := by
  induction x with
  | nil => rfl
  | cons c x ih => simp [flat, bits6] at ih ⊢; omega

theorem flat_le (x : List UInt8) (i : Nat) : (flat x).getD i 0 ≤ 1 := by
  by_cases h : i < (flat x).length
  · have e : (flat x).getD i 0 = (flat x)[i] := by simp [List.getD_eq_getElem?_getD, List.getElem?_eq_getElem h]
    rw [e]
    have hm : (flat x)[i] ∈ flat x := List.getElem_mem h
    generalize (flat x)[i] = b at hm
    unfold flat at hm
    rw [List.mem_flatMap] at hm
    obtain ⟨c, _, hc⟩ := hm
    simp [bits6] at hc
    omega
  · rw [List.getD_eq_getElem?_getD, List.getElem?_eq_none (by omega)]
    decide

theorem flat_at (x : List UInt8) (a t : Nat) (ht : t < 6) : (flat x).getD (6 * a + t) 0 = (x.getD a 0).toNat / 2 ^ (5 - t) % 2 := by
  induction x generalizing a with
  | nil => simp [flat]
  | cons c x ih =>
    have e : flat (c :: x) = bits6 c.toNat ++ flat x := by simp [flat]
    rw [e]
    cases a with
    | zero =>
      rcases (by omega : t = 0 ∨ t = 1 ∨ t = 2 ∨ t = 3 ∨ t = 4 ∨ t = 5) with rfl | rfl | rfl | rfl | rfl | rfl <;> simp [bits6]
    | succ a =>
      have e2 : (bits6 c.toNat ++ flat x).getD (6 * (a + 1) + t) 0 = (flat x).getD (6 * a + t) 0 := by
        rw [List.getD_eq_getElem?_getD, List.getElem?_append_right (by simp [bits6]; omega), List.getD_eq_getElem?_getD]
        congr 2
        simp [bits6]
        omega
      rw [e2, ih a]
      simp

theorem joinTo_at (x : List UInt8) (M m r : Nat) (hm : m < M) (hr : r < 3) : (joinTo x M).getD (3 * m + r) 0 = (bytes3 (quad x m)).getD r 0 := by
  induction M with
  | zero => omega
  | succ M ih =>
    rw [joinTo, List.getD_eq_getElem?_getD]
    by_cases h : m < M
    · rw [List.getElem?_append_left (by rw [joinTo_length]; omega), ← List.getD_eq_getElem?_getD]
      exact ih h
    · obtain rfl : m = M := by omega
      rw [List.getElem?_append_right (by rw [joinTo_length]; omega), joinTo_length, show 3 * m + r - 3 * m = r from by omega, ← List.getD_eq_getElem?_getD]

/-- Eight bits are a byte. -/
theorem byte_bits (x : List UInt8) (h64 : ∀ c ∈ x, c.toNat < 64) (q : Nat) (hq : q < 3 * (x.length / 4)) :
    (((((((((flat x).getD (8 * q) 0) * 2 + (flat x).getD (8 * q + 1) 0) * 2 + (flat x).getD (8 * q + 2) 0) * 2 + (flat x).getD (8 * q + 3) 0) * 2 + (flat x).getD (8 * q + 4) 0) * 2 + (flat x).getD (8 * q + 5) 0) * 2 + (flat x).getD (8 * q + 6) 0) * 2 + (flat x).getD (8 * q + 7) 0) = ((joinS x).getD q 0).toNat := by
  have hlt : ∀ j, (x.getD j 0).toNat < 64 := by
    intro j
    by_cases hj : j < x.length
    · have e : x.getD j 0 = x[j] := by simp [List.getD_eq_getElem?_getD, List.getElem?_eq_getElem hj]
      rw [e]; exact h64 _ (List.getElem_mem hj)
    · rw [List.getD_eq_getElem?_getD, List.getElem?_eq_none (by omega)]; decide
  obtain ⟨m, r, hr, rfl⟩ : ∃ m r, r < 3 ∧ q = 3 * m + r := ⟨q / 3, q % 3, by omega, by omega⟩
  have hm : m < x.length / 4 := by omega
  unfold joinS
  rw [joinTo_at x _ m r hm hr]
  have key : ∀ t, t < 8 → (flat x).getD (8 * (3 * m + r) + t) 0 = (x.getD (4 * m + (8 * r + t) / 6) 0).toNat / 2 ^ (5 - (8 * r + t) % 6) % 2 := by
    intro t _
    rw [show 8 * (3 * m + r) + t = 6 * (4 * m + (8 * r + t) / 6) + (8 * r + t) % 6 from by omega]
    exact flat_at x _ _ (by omega)
  rw [show (flat x).getD (8 * (3 * m + r)) 0 = _ from key 0 (by decide), key 1 (by decide), key 2 (by decide), key 3 (by decide), key 4 (by decide), key 5 (by decide), key 6 (by decide), key 7 (by decide)]
  have h0 := hlt (4 * m); have h1 := hlt (4 * m + 1); have h2 := hlt (4 * m + 2); have h3 := hlt (4 * m + 3)
  rcases (by omega : r = 0 ∨ r = 1 ∨ r = 2) with rfl | rfl | rfl
  all_goals
    simp only [bytes3, quad, Nat.reduceMul, Nat.reduceAdd, Nat.reduceDiv, Nat.reduceMod, Nat.reduceSub, Nat.reducePow, Nat.zero_add, Nat.mul_zero, Nat.zero_div, Nat.zero_mod, Nat.sub_zero, Nat.add_zero, Nat.sub_self, Nat.pow_zero, Nat.div_one, List.getD_cons_zero, List.getD_cons_succ, UInt8.toNat_ofNat']
    generalize (x.getD (4 * m) 0).toNat = a0 at *
    generalize (x.getD (4 * m + 1) 0).toNat = a1 at *
    generalize (x.getD (4 * m + 2) 0).toNat = a2 at *
    generalize (x.getD (4 * m + 3) 0).toNat = a3 at *
    omega

theorem sp_idx (c : UInt8) : (0 ≤ Lib.indexByte [32, 9, 13, 10] c) ↔ sp c = true := by
  simp only [Lib.indexByte, sp, Bool.or_eq_true]
  by_cases h1 : c = 32
  · subst h1; decide
  · by_cases h2 : c = 9
    · subst h2; decide
    · by_cases h3 : c = 13
      · subst h3; decide
      · by_cases h4 : c = 10
        · subst h4; decide
        · have e1 : ((32 : UInt8) == c) = false := by simp; exact fun e => h1 e.symm
          have e2 : ((9 : UInt8) == c) = false := by simp; exact fun e => h2 e.symm
          have e3 : ((13 : UInt8) == c) = false := by simp; exact fun e => h3 e.symm
          have e4 : ((10 : UInt8) == c) = false := by simp; exact fun e => h4 e.symm
          simp [e1, e2, e3, e4, h1, h2, h3, h4]
end Go.Proofs.YtlndhdimamnnlaaGreatDoor

/- Plain facts: what is written is read; its lines. No program. -/
namespace Go.Proofs.YtlndhdimamnnlaaGreatDoor

/-- The number of the i-th letter. -/
def sx (L : List UInt8) (i : Nat) : UInt8 := UInt8.ofNat (val3 (trio L i) / 2 ^ (18 - 6 * (i % 4)) % 64)

theorem trio_length (L : List UInt8) (i : Nat) : (trio L i).length = min 3 (L.length - i / 4 * 3) := by
  unfold trio; rw [List.length_take, List.length_drop]

theorem idx_abc : ∀ v : Fin 64, Lib.indexByte abc (abc.getD v.val 0) = (v.val : Int) ∧ sp (abc.getD v.val 0) = false ∧ abc.getD v.val 0 ≠ 61 ∧ abc.getD v.val 0 ≠ 13 := by decide +kernel

theorem getD_ge (T : List UInt8) (i : Nat) (h : T.length ≤ i) : T.getD i 0 = 0 := by
  rw [List.getD_eq_getElem?_getD, List.getElem?_eq_none h]; rfl

theorem sx_fill (L : List UInt8) (i : Nat) (h : 8 * (trio L i).length ≤ 6 * (i % 4)) (h1 : 1 ≤ (trio L i).length) : sx L i = 0 := by
  unfold sx val3
  generalize trio L i = T at *
  have hk : i % 4 < 4 := Nat.mod_lt _ (by decide)
  generalize i % 4 = k at *
  have h2 := getD_ge T 2 (by omega)
  rw [h2]
  rcases (by omega : (k = 2 ∧ T.length = 1) ∨ k = 3) with ⟨rfl, hT⟩ | rfl
  · have h1' := getD_ge T 1 (by omega)
    rw [h1']
    have : (T.getD 0 0).toNat * 65536 + (0 : UInt8).toNat * 256 + (0 : UInt8).toNat = (T.getD 0 0).toNat * 65536 := by simp
    rw [this, show (2 : Nat) ^ (18 - 6 * 2) = 64 from rfl, show (T.getD 0 0).toNat * 65536 / 64 % 64 = 0 from by omega]
    rfl
  · have : ((T.getD 0 0).toNat * 65536 + (T.getD 1 0).toNat * 256 + (0 : UInt8).toNat) / 2 ^ (18 - 6 * 3) % 64 = 0 := by
      rw [show (2 : Nat) ^ (18 - 6 * 3) = 1 from rfl, show (0 : UInt8).toNat = 0 from rfl]; omega
    rw [this]
    rfl

theorem encAt_fill (L : List UInt8) (i : Nat) (h : 8 * (trio L i).length ≤ 6 * (i % 4)) : encAt L i = 61 := by
  unfold encAt letT; rw [if_pos h]
theorem sx_toNat (L : List UInt8) (i : Nat) : (sx L i).toNat = val3 (trio L i) / 2 ^ (18 - 6 * (i % 4)) % 64 := by
  unfold sx; simp; omega
theorem encAt_letter (L : List UInt8) (i : Nat) (h : ¬ 8 * (trio L i).length ≤ 6 * (i % 4)) : encAt L i = abc.getD (sx L i).toNat 0 := by
  rw [sx_toNat]; unfold encAt letT; rw [if_neg h]
theorem sx_lt (L : List UInt8) (i : Nat) : (sx L i).toNat < 64 := by rw [sx_toNat]; exact Nat.mod_lt _ (by decide)

theorem scan_append (a b : List UInt8) : ∀ st, scan (a ++ b) st = (scan a st).bind (scan b) := by
  induction a with
  | nil => intro st; rfl
  | cons c a ih =>
    intro st
    simp only [List.cons_append, scan]
    cases scanStep st c with
    | none => rfl
    | some st' => exact ih st'

/-- How many letters are no '='. -/
def nf (n : Nat) : Nat := (n + 2) / 3 * 4 - (3 * ((n + 2) / 3) - n)

theorem scan_text (L : List UInt8) (m : Nat) (hm : m ≤ (L.length + 2) / 3 * 4) : scan (text L m) ([], 0) = some ((List.range m).map (sx L), m - nf L.length) := by
  induction m with
  | zero => simp [text, scan]
  | succ m ih =>
    have hT := trio_length L m
    have hsep : ∀ st, scan (sepAt m) st = some st := by
      intro st
      unfold sepAt
      split
      · simp [scan, scanStep, sp]
      · rfl
    rw [text, scan_append, ih (by omega), Option.bind_some, scan_append, hsep, Option.bind_some, List.range_succ, List.map_append, List.map_singleton]
    by_cases hf : 8 * (trio L m).length ≤ 6 * (m % 4)
    · have hnf : nf L.length ≤ m := by unfold nf; omega
      rw [encAt_fill L m hf, sx_fill L m hf (by omega)]
      have hs : sp 61 = false := by decide
      simp only [scan, scanStep, hs, Bool.false_eq_true, if_false, if_true, Option.bind_some]
      rw [show m + 1 - nf L.length = m - nf L.length + 1 from by omega]
    · have hnf : m < nf L.length := by unfold nf; omega
      rw [encAt_letter L m hf]
      obtain ⟨h1, h2, h3, _⟩ := idx_abc ⟨(sx L m).toNat, sx_lt L m⟩
      simp only at h1 h2 h3
      simp only [scan, scanStep, h2, Bool.false_eq_true, if_false, h3, h1]
      rw [if_neg (by omega)]
      simp only [Option.bind_some, Option.some.injEq, Prod.mk.injEq]
      refine ⟨?_, by omega⟩
      congr 2
      rw [Int.toNat_natCast]
      simp

theorem text_length_eq (L : List UInt8) (m : Nat) : (text L m).length = m + 2 * ((m - 1) / 76) := by
  induction m with
  | zero => rfl
  | succ m ih =>
    rw [text, List.length_append, List.length_append, ih]
    unfold sepAt
    split
    · simp; omega
    · simp; omega

theorem quad_sx (L : List UInt8) (F m : Nat) (hm : m < F) : quad ((List.range (4 * F)).map (sx L)) m = val3 (trio L (4 * m)) := by
  have hg : ∀ k, k < 4 → ((((List.range (4 * F)).map (sx L)).getD (4 * m + k) 0).toNat) = val3 (trio L (4 * m)) / 2 ^ (18 - 6 * k) % 64 := by
    intro k hk
    have e : ((List.range (4 * F)).map (sx L)).getD (4 * m + k) 0 = sx L (4 * m + k) := by
      simp [List.getD_eq_getElem?_getD, show 4 * m + k < 4 * F from by omega]
    rw [e, sx_toNat]
    have e1 : trio L (4 * m + k) = trio L (4 * m) := by unfold trio; rw [show (4 * m + k) / 4 = 4 * m / 4 from by omega]
    rw [e1, show (4 * m + k) % 4 = k from by omega]
  unfold quad
  rw [show (List.map (sx L) (List.range (4 * F))).getD (4 * m) 0 = (List.map (sx L) (List.range (4 * F))).getD (4 * m + 0) 0 from rfl, hg 0 (by decide), hg 1 (by decide), hg 2 (by decide), hg 3 (by decide)]
  have hv := val3_lt (trio L (4 * m))
  generalize val3 (trio L (4 * m)) = v at *
  simp only [Nat.reduceMul, Nat.reduceSub, Nat.reducePow, Nat.mul_zero, Nat.sub_zero, Nat.sub_self, Nat.pow_zero, Nat.div_one]
  omega

theorem bytes3_val (T : List UInt8) (r : Nat) (hr : r < 3) : (bytes3 (val3 T)).getD r 0 = T.getD r 0 := by
  have h0 := (T.getD 0 0).toNat_lt
  have h1 := (T.getD 1 0).toNat_lt
  have h2 := (T.getD 2 0).toNat_lt
  rw [← UInt8.toNat_inj]
  unfold bytes3 val3
  rcases (by omega : r = 0 ∨ r = 1 ∨ r = 2) with rfl | rfl | rfl
  all_goals
    simp only [List.getD_cons_zero, List.getD_cons_succ, UInt8.toNat_ofNat']
    omega

theorem join_back (L : List UInt8) : (joinS ((List.range ((L.length + 2) / 3 * 4)).map (sx L))).length = 3 * ((L.length + 2) / 3) ∧
    ∀ i, i < 3 * ((L.length + 2) / 3) → (joinS ((List.range ((L.length + 2) / 3 * 4)).map (sx L))).getD i 0 = L.getD i 0 := by
  generalize hF : (L.length + 2) / 3 = F
  have e : F * 4 = 4 * F := by omega
  rw [e]
  unfold joinS
  rw [List.length_map, List.length_range, show 4 * F / 4 = F from by omega]
  refine ⟨joinTo_length _ _, fun i hi => ?_⟩
  obtain ⟨m, r, hr, rfl⟩ : ∃ m r, r < 3 ∧ i = 3 * m + r := ⟨i / 3, i % 3, by omega, by omega⟩
  rw [joinTo_at _ F m r (by omega) hr, quad_sx L F m (by omega), bytes3_val _ r hr, trio_getD L (4 * m) r hr, show 4 * m / 4 * 3 = 3 * m from by omega]

/-- WHAT IS WRITTEN IS READ. -/
theorem read_encode (L : List UInt8) (h : L.length ≤ 4000) : readS (encode L) = (L, 0) := by
  have hlen : (encode L).length ≤ 8000 := by unfold encode; rw [text_length_eq]; omega
  have hsc : scan (encode L) ([], 0) = some ((List.range ((L.length + 2) / 3 * 4)).map (sx L), 3 * ((L.length + 2) / 3) - L.length) := by
    unfold encode
    rw [scan_text L _ (Nat.le_refl _), show (L.length + 2) / 3 * 4 - nf L.length = 3 * ((L.length + 2) / 3) - L.length from by unfold nf; omega]
  have hdg : digitsS (encode L) = some ((List.range ((L.length + 2) / 3 * 4)).map (sx L), 3 * ((L.length + 2) / 3) - L.length) := by
    unfold digitsS
    rw [hsc, Option.bind_some, if_neg (by simp only [List.length_map, List.length_range]; omega)]
  obtain ⟨hl, hg⟩ := join_back L
  have hcut : cutS (joinS ((List.range ((L.length + 2) / 3 * 4)).map (sx L))) (3 * ((L.length + 2) / 3) - L.length) = some L := by
    generalize joinS ((List.range ((L.length + 2) / 3 * 4)).map (sx L)) = J at hl hg
    unfold cutS
    rw [hl, show 3 * ((L.length + 2) / 3) - (3 * ((L.length + 2) / 3) - L.length) = L.length from by omega]
    have hz : (J.drop L.length).all (· == 0) = true := by
      rw [List.all_eq_true]
      intro x hx
      obtain ⟨i, hi, rfl⟩ := List.mem_iff_getElem.1 hx
      rw [List.length_drop] at hi
      have := hg (L.length + i) (by omega)
      rw [getD_ge L (L.length + i) (by omega), List.getD_eq_getElem?_getD, List.getElem?_eq_getElem (show L.length + i < J.length by omega)] at this
      simpa using this
    rw [if_pos hz]
    congr 1
    apply List.ext_getElem
    · rw [List.length_take]; omega
    · intro i h1 h2
      have := hg i (by omega)
      rw [List.getD_eq_getElem?_getD, List.getElem?_eq_getElem (show i < J.length by omega), List.getD_eq_getElem?_getD, List.getElem?_eq_getElem h2] at this
      simpa using this
  unfold readS
  rw [if_neg (by omega), hdg]
  simp only [hcut]
  rw [if_neg (by omega)]

/-! The lines. -/
def crlf : List UInt8 := [13, 10]

theorem index_none (a : List UInt8) (h : ∀ c ∈ a, c ≠ 13) : Lib.index a crlf = -1 := by
  induction a with
  | nil => rfl
  | cons c a ih =>
    have hc : (13 == c) = false := by simp; exact fun e => h c (by simp) e.symm
    have := ih (fun d hd => h d (by simp [hd]))
    simp [Lib.index, crlf, List.isPrefixOf, hc] at this ⊢
    intro hh
    exact absurd this hh
theorem index_at (a r : List UInt8) (h : ∀ c ∈ a, c ≠ 13) : Lib.index (a ++ (crlf ++ r)) crlf = (a.length : Int) := by
  induction a with
  | nil => simp [crlf, Lib.index, List.isPrefixOf]
  | cons c a ih =>
    have hc : (13 == c) = false := by simp; exact fun e => h c (by simp) e.symm
    have hi := ih (fun d hd => h d (by simp [hd]))
    rw [List.cons_append, Lib.index]
    have hp : crlf.isPrefixOf (c :: (a ++ (crlf ++ r))) = false := by simp [crlf, List.isPrefixOf, hc]
    rw [hp, hi]
    simp only [Bool.false_eq_true, if_false]
    rw [if_neg (by simp)]
    simp

theorem encAt_ne (L : List UInt8) (i : Nat) : encAt L i ≠ 13 := by
  by_cases hf : 8 * (trio L i).length ≤ 6 * (i % 4)
  · rw [encAt_fill L i hf]; decide
  · rw [encAt_letter L i hf]
    exact (idx_abc ⟨(sx L i).toNat, sx_lt L i⟩).2.2.2

theorem text_line (L : List UInt8) (m : Nat) (hm : m ≤ 76) : (∀ c ∈ text L m, c ≠ 13) ∧ (text L m).length = m := by
  induction m with
  | zero => simp [text]
  | succ m ih =>
    have hs : sepAt m = [] := by unfold sepAt; rw [if_neg (by omega)]
    obtain ⟨h1, h2⟩ := ih (by omega)
    rw [text, hs]
    refine ⟨?_, by simp [h2]⟩
    intro c hc
    simp at hc
    rcases hc with hc | rfl
    · exact h1 c hc
    · exact encAt_ne L m

theorem count_line (a r : List UInt8) (h : ∀ c ∈ a, c ≠ 13) : Lib.count (a ++ (crlf ++ r)) crlf = 1 + Lib.count r crlf := by
  rw [Lib.count_hit (by simp [crlf]) (index_at a r h)]
  congr 2
  rw [show a.length + crlf.length = (a ++ crlf).length from by simp, ← List.append_assoc, List.drop_left]

theorem drop_line (a r : List UInt8) : (a ++ (crlf ++ r)).drop (a.length + crlf.length) = r := by
  rw [show a.length + crlf.length = (a ++ crlf).length from by simp, ← List.append_assoc, List.drop_left]

theorem lines_of (L : List UInt8) : ∀ N, L.length ≤ N → (∀ x ∈ Lib.splitK crlf 0 (Lib.count (encode L) crlf) (encode L), x.length ≤ 76) ∧
    (Lib.replaceK crlf [] (Lib.count (encode L) crlf) (encode L)).length = (L.length + 2) / 3 * 4 := by
  intro N
  induction N generalizing L with
  | zero =>
    intro h
    have : L = [] := List.length_eq_zero_iff.1 (by omega)
    subst this
    decide
  | succ N ih =>
    intro h
    by_cases hs : L.length ≤ 57
    · obtain ⟨h1, h2⟩ := text_line L ((L.length + 2) / 3 * 4) (by omega)
      have hi := index_none _ h1
      have e : encode L = text L ((L.length + 2) / 3 * 4) := rfl
      rw [e, Lib.count_miss hi]
      refine ⟨?_, h2⟩
      intro x hx
      simp [Lib.splitK] at hx
      subst hx
      rw [h2]
      omega
    · have hp := encode_parts L 1 (by omega)
      rw [if_pos (by decide)] at hp
      have ht : (L.take (57 * 1)).length = 57 := by rw [List.length_take]; omega
      obtain ⟨h1, h2⟩ := text_line (L.take (57 * 1)) 76 (by decide)
      have e : encode (L.take (57 * 1)) = text (L.take (57 * 1)) 76 := by unfold encode; rw [ht]
      rw [← e] at h1 h2
      generalize encode (L.take (57 * 1)) = a at *
      obtain ⟨g1, g2⟩ := ih (L.drop (57 * 1)) (by rw [List.length_drop]; omega)
      rw [List.length_drop] at g2
      generalize encode (L.drop (57 * 1)) = r at *
      have hp' : encode L = a ++ (crlf ++ r) := hp
      rw [hp', count_line a r h1, Nat.add_comm 1]
      have hi := index_at a r h1
      constructor
      · intro x hx
        rw [Lib.splitK, hi, if_neg (by simp), Int.toNat_natCast, drop_line, List.mem_cons] at hx
        rcases hx with rfl | hx
        · rw [Nat.add_zero, List.take_left, h2]; exact Nat.le_refl _
        · exact g1 x hx
      · rw [Lib.replaceK_hit crlf [] _ _ a.length hi, drop_line, List.take_left, List.append_nil, List.length_append, h2, g2]
        omega
end Go.Proofs.YtlndhdimamnnlaaGreatDoor

/- Plain facts: pieces joined by a mark are split at it, and it can be left out. No program. -/
namespace Go.Proofs.YtlndhdimamnnlaaGreatDoor

theorem index_sep_none (d : UInt8) (s a : List UInt8) (h : ∀ c ∈ a, c ≠ d) : Lib.index a (d :: s) = -1 := by
  induction a with
  | nil => rfl
  | cons c a ih =>
    have hc : (d == c) = false := by simp; exact fun e => h c (by simp) e.symm
    have := ih (fun e he => h e (by simp [he]))
    simp [Lib.index, List.isPrefixOf, hc, this]
theorem prefix_self (s r : List UInt8) : s.isPrefixOf (s ++ r) = true := by
  rw [List.isPrefixOf_iff_prefix]; exact List.prefix_append s r
theorem index_sep (d : UInt8) (s a r : List UInt8) (h : ∀ c ∈ a, c ≠ d) : Lib.index (a ++ ((d :: s) ++ r)) (d :: s) = (a.length : Int) := by
  induction a with
  | nil =>
    have := prefix_self (d :: s) r
    rw [List.cons_append] at this
    rw [List.nil_append, List.cons_append, Lib.index, if_pos this]
    rfl
  | cons c a ih =>
    have hc : (d == c) = false := by simp; exact fun e => h c (by simp) e.symm
    have hi := ih (fun e he => h e (by simp [he]))
    rw [List.cons_append, Lib.index]
    have hp : (d :: s).isPrefixOf (c :: (a ++ ((d :: s) ++ r))) = false := by simp [List.isPrefixOf, hc]
    rw [hp, hi]
    simp only [Bool.false_eq_true, if_false]
    rw [if_neg (by simp)]
    simp
theorem drop_sep (s a r : List UInt8) : (a ++ (s ++ r)).drop (a.length + s.length) = r := by
  rw [show a.length + s.length = (a ++ s).length from by simp, ← List.append_assoc, List.drop_left]
theorem count_sep (d : UInt8) (s a r : List UInt8) (h : ∀ c ∈ a, c ≠ d) : Lib.count (a ++ ((d :: s) ++ r)) (d :: s) = Lib.count r (d :: s) + 1 := by
  rw [Lib.count_hit (by simp) (index_sep d s a r h), drop_sep, Nat.add_comm]

/-- Pieces, with a mark between. -/
def joinG (s : List UInt8) : List UInt8 → List (List UInt8) → List UInt8
  | a, [] => a
  | a, b :: t => a ++ (s ++ joinG s b t)

theorem split_join (d : UInt8) (s : List UInt8) : ∀ (t : List (List UInt8)) (a : List UInt8), (∀ x ∈ a :: t, ∀ c ∈ x, c ≠ d) →
    Lib.splitK (d :: s) 0 (Lib.count (joinG (d :: s) a t) (d :: s)) (joinG (d :: s) a t) = a :: t := by
  intro t
  induction t with
  | nil => intro a h; rw [joinG, Lib.count_miss (index_sep_none d s a (h a (by simp)))]; rfl
  | cons b t ih =>
    intro a h
    have ha := h a (by simp)
    rw [joinG, count_sep d s a _ ha, Lib.splitK, index_sep d s a _ ha, if_neg (by simp), Int.toNat_natCast, drop_sep, ih b (fun x hx => h x (by simp at hx ⊢; right; exact hx)), Nat.add_zero, List.take_left]
theorem replace_join (d : UInt8) (s n : List UInt8) : ∀ (t : List (List UInt8)) (a : List UInt8), (∀ x ∈ a :: t, ∀ c ∈ x, c ≠ d) →
    Lib.replaceK (d :: s) n (Lib.count (joinG (d :: s) a t) (d :: s)) (joinG (d :: s) a t) = joinG n a t := by
  intro t
  induction t with
  | nil => intro a h; rw [joinG, Lib.count_miss (index_sep_none d s a (h a (by simp)))]; rfl
  | cons b t ih =>
    intro a h
    have ha := h a (by simp)
    rw [joinG, count_sep d s a _ ha, Lib.replaceK_hit _ _ _ _ a.length (index_sep d s a _ ha), drop_sep, ih b (fun x hx => h x (by simp at hx ⊢; right; exact hx)), List.take_left, joinG]
    simp
theorem joinG_nil : ∀ (t : List (List UInt8)) (a : List UInt8), joinG [] a t = (a :: t).flatten := by
  intro t
  induction t with
  | nil => intro a; simp [joinG]
  | cons b t ih => intro a; rw [joinG, ih b]; simp

end Go.Proofs.YtlndhdimamnnlaaGreatDoor

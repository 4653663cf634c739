/- Plain facts: what is written is read; its lines. No program. -/
import Derived.Test.YtpgnkhaanoalhaaGreatDoorXmimeborders34
import Derived.Lib.Replace
import Derived.Lib.Strings
import Derived.Lib.Bytealg
import Derived.Test.YtpgnkhaanoalhaaGreatDoorXmimeborders20
namespace Go.Proofs.YtpgnkhaanoalhaaGreatDoor

/-- The number of the i-th letter. -/
def sx (L : List UInt8) (i : Nat) : UInt8 := UInt8.ofNat (val3 (trio L i) / 2 ^ (18 - 6 * (i % 4)) % 64)

theorem trio_length (L : List UInt8) (i : Nat) : (trio L i).length = min 3 (L.length - i / 4 * 3) := by
  unfold trio; rw [List.length_take, List.length_drop]

theorem idx_abc : ∀ v : Fin 64, Lib.indexByte abc (abc.getD v.val 0) = (v.val : Int) ∧ sp (abc.getD v.val 0) = false ∧ abc.getD v.val 0 ≠ 61 ∧ abc.getD v.val 0 ≠ 13 := by decide +kernel

theorem getD_ge (T : List UInt8) (i : Nat) (h : T.length ≤ i) : T.getD i 0 = 0 := by
  rw [List.getD_eq_getElem?_getD, List.getElem?_eq_none h]; rfl

theorem sx_fill (L : List UInt8) (i : Nat) (h : 8 * (trio L i).length ≤ 6 * (i % 4)) (h1 : 1 ≤ (trio L i).length) : sx L i = 0 := by
  unfold sx val3
  generalize trio L i = T at *
  have hk : i % 4 < 4 := Nat.mod_lt _ (by decide)
  generalize i % 4 = k at *
  have h2 := getD_ge T 2 (by omega)
  rw [h2]
  rcases (by omega : (k = 2 ∧ T.length = 1) ∨ k = 3) with ⟨rfl, hT⟩ | rfl
  · have h1' := getD_ge T 1 (by omega)
    rw [h1']
    have : (T.getD 0 0).toNat * 65536 + (0 : UInt8).toNat * 256 + (0 : UInt8).toNat = (T.getD 0 0).toNat * 65536 := by simp
    rw [this, show (2 : Nat) ^ (18 - 6 * 2) = 64 from rfl, show (T.getD 0 0).toNat * 65536 / 64 % 64 = 0 from by omega]
    rfl
  · have : ((T.getD 0 0).toNat * 65536 + (T.getD 1 0).toNat * 256 + (0 : UInt8).toNat) / 2 ^ (18 - 6 * 3) % 64 = 0 := by
      rw [show (2 : Nat) ^ (18 - 6 * 3) = 1 from rfl, show (0 : UInt8).toNat = 0 from rfl]; omega
    rw [this]
    rfl

theorem encAt_fill (L : List UInt8) (i : Nat) (h : 8 * (trio L i).length ≤ 6 * (i % 4)) : encAt L i = 61 := by
  unfold encAt letT; rw [if_pos h]
theorem sx_toNat (L : List UInt8) (i : Nat) : (sx L i).toNat = val3 (trio L i) / 2 ^ (18 - 6 * (i % 4)) % 64 := by
  unfold sx; simp; omega
theorem encAt_letter (L : List UInt8) (i : Nat) (h : ¬ 8 * (trio L i).length ≤ 6 * (i % 4)) : encAt L i = abc.getD (sx L i).toNat 0 := by
  rw [sx_toNat]; unfold encAt letT; rw [if_neg h]
theorem sx_lt (L : List UInt8) (i : Nat) : (sx L i).toNat < 64 := by rw [sx_toNat]; exact Nat.mod_lt _ (by decide)

theorem scan_append (a b : List UInt8) : ∀ st, scan (a ++ b) st = (scan a st).bind (scan b) := by
  induction a with
  | nil => intro st; rfl
  | cons c a ih =>
    intro st
    simp only [List.cons_append, scan]
    cases scanStep st c with
    | none => rfl
    | some st' => exact ih st'

/-- How many letters are no '='. -/
def nf (n : Nat) : Nat := (n + 2) / 3 * 4 - (3 * ((n + 2) / 3) - n)

theorem scan_text (L : List UInt8) (m : Nat) (hm : m ≤ (L.length + 2) / 3 * 4) : scan (text L m) ([], 0) = some ((List.range m).map (sx L), m - nf L.length) := by
  induction m with
  | zero => simp [text, scan]
  | succ m ih =>
    have hT := trio_length L m
    have hsep : ∀ st, scan (sepAt m) st = some st := by
      intro st
      unfold sepAt
      split
      · simp [scan, scanStep, sp]
      · rfl
    rw [text, scan_append, ih (by omega), Option.bind_some, scan_append, hsep, Option.bind_some, List.range_succ, List.map_append, List.map_singleton]
    by_cases hf : 8 * (trio L m).length ≤ 6 * (m % 4)
    · have hnf : nf L.length ≤ m := by unfold nf; omega
      rw [encAt_fill L m hf, sx_fill L m hf (by omega)]
      have hs : sp 61 = false := by decide
      simp only [scan, scanStep, hs, Bool.false_eq_true, if_false, if_true, Option.bind_some]
      rw [show m + 1 - nf L.length = m - nf L.length + 1 from by omega]
    · have hnf : m < nf L.length := by unfold nf; omega
      rw [encAt_letter L m hf]
      obtain ⟨h1, h2, h3, _⟩ := idx_abc ⟨(sx L m).toNat, sx_lt L m⟩
      simp only at h1 h2 h3
      simp only [scan, scanStep, h2, Bool.false_eq_true, if_false, h3, h1]
      rw [if_neg (by omega)]
      simp only [Option.bind_some, Option.some.injEq, Prod.mk.injEq]
      refine ⟨?_, by omega⟩
      congr 2
      rw [Int.toNat_natCast]
      simp

theorem text_length_eq (L : List UInt8) (m : Nat) : (text L m).length = m + 2 * ((m - 1) / 76) := by
  induction m with
  | zero => rfl
  | succ m ih =>
    rw [text, List.length_append, List.length_append, ih]
    unfold sepAt
    split
    · simp; omega
    · simp; omega

theorem quad_sx (L : List UInt8) (F m : Nat) (hm : m < F) : quad ((List.range (4 * F)).map (sx L)) m = val3 (trio L (4 * m)) := by
  have hg : ∀ k, k < 4 → ((((List.range (4 * F)).map (sx L)).getD (4 * m + k) 0).toNat) = val3 (trio L (4 * m)) / 2 ^ (18 - 6 * k) % 64 := by
    intro k hk
    have e : ((List.range (4 * F)).map (sx L)).getD (4 * m + k) 0 = sx L (4 * m + k) := by
      simp [List.getD_eq_getElem?_getD, show 4 * m + k < 4 * F from by omega]
    rw [e, sx_toNat]
    have e1 : trio L (4 * m + k) = trio L (4 * m) := by unfold trio; rw [show (4 * m + k) / 4 = 4 * m / 4 from by omega]
    rw [e1, show (4 * m + k) % 4 = k from by omega]
  unfold quad
  rw [show (List.map (sx L) (List.range (4 * F))).getD (4 * m) 0 = (List.map (sx L) (List.range (4 * F))).getD (4 * m + 0) 0 from rfl, hg 0 (by decide), hg 1 (by decide), hg 2 (by decide), hg 3 (by decide)]
  have hv := val3_lt (trio L (4 * m))
  generalize val3 (trio L (4 * m)) = v at *
  simp only [Nat.reduceMul, Nat.reduceSub, Nat.reducePow, Nat.mul_zero, Nat.sub_zero, Nat.sub_self, Nat.pow_zero, Nat.div_one]
  omega

theorem bytes3_val (T : List UInt8) (r : Nat) (hr : r < 3) : (bytes3 (val3 T)).getD r 0 = T.getD r 0 := by
  have h0 := (T.getD 0 0).toNat_lt
  have h1 := (T.getD 1 0).toNat_lt
  have h2 := (T.getD 2 0).toNat_lt
  rw [← UInt8.toNat_inj]
  unfold bytes3 val3
  rcases (by omega : r = 0 ∨ r = 1 ∨ r = 2) with rfl | rfl | rfl
  all_goals
    simp only [List.getD_cons_zero, List.getD_cons_succ, UInt8.toNat_ofNat']
    omega

theorem join_back (L : List UInt8) : (joinS ((List.range ((L.length + 2) / 3 * 4)).map (sx L))).length = 3 * ((L.length + 2) / 3) ∧
    ∀ i, i < 3 * ((L.length + 2) / 3) → (joinS ((List.range ((L.length + 2) / 3 * 4)).map (sx L))).getD i 0 = L.getD i 0 := by
  generalize hF : (L.length + 2) / 3 = F
  have e : F * 4 = 4 * F := by omega
  rw [e]
  unfold joinS
  rw [List.length_map, List.length_range, show 4 * F / 4 = F from by omega]
  refine ⟨joinTo_length _ _, fun i hi => ?_⟩
  obtain ⟨m, r, hr, rfl⟩ : ∃ m r, r < 3 ∧ i = 3 * m + r := ⟨i / 3, i % 3, by omega, by omega⟩
  rw [joinTo_at _ F m r (by omega) hr, quad_sx L F m (by omega), bytes3_val _ r hr, trio_getD L (4 * m) r hr, show 4 * m / 4 * 3 = 3 * m from by omega]

/-- WHAT IS WRITTEN IS READ. -/
theorem read_encode (L : List UInt8) (h : L.length ≤ 4000) : readS (encode L) = (L, 0) := by
  have hlen : (encode L).length ≤ 8000 := by unfold encode; rw [text_length_eq]; omega
  have hsc : scan (encode L) ([], 0) = some ((List.range ((L.length + 2) / 3 * 4)).map (sx L), 3 * ((L.length + 2) / 3) - L.length) := by
    unfold encode
    rw [scan_text L _ (Nat.le_refl _), show (L.length + 2) / 3 * 4 - nf L.length = 3 * ((L.length + 2) / 3) - L.length from by unfold nf; omega]
  have hdg : digitsS (encode L) = some ((List.range ((L.length + 2) / 3 * 4)).map (sx L), 3 * ((L.length + 2) / 3) - L.length) := by
    unfold digitsS
    rw [hsc, Option.bind_some, if_neg (by simp only [List.length_map, List.length_range]; omega)]
  obtain ⟨hl, hg⟩ := join_back L
  have hcut : cutS (joinS ((List.range ((L.length + 2) / 3 * 4)).map (sx L))) (3 * ((L.length + 2) / 3) - L.length) = some L := by
    generalize joinS ((List.range ((L.length + 2) / 3 * 4)).map (sx L)) = J at hl hg
    unfold cutS
    rw [hl, show 3 * ((L.length + 2) / 3) - (3 * ((L.length + 2) / 3) - L.length) = L.length from by omega]
    have hz : (J.drop L.length).all (· == 0) = true := by
      rw [List.all_eq_true]
      intro x hx
      obtain ⟨i, hi, rfl⟩ := List.mem_iff_getElem.1 hx
      rw [List.length_drop] at hi
      have := hg (L.length + i) (by omega)
      rw [getD_ge L (L.length + i) (by omega), List.getD_eq_getElem?_getD, List.getElem?_eq_getElem (show L.length + i < J.length by omega)] at this
      simpa using this
    rw [if_pos hz]
    congr 1
    apply List.ext_getElem
    · rw [List.length_take]; omega
    · intro i h1 h2
      have := hg i (by omega)
      rw [List.getD_eq_getElem?_getD, List.getElem?_eq_getElem (show i < J.length by omega), List.getD_eq_getElem?_getD, List.getElem?_eq_getElem h2] at this
      simpa using this
  unfold readS
  rw [if_neg (by omega), hdg]
  simp only [hcut]
  rw [if_neg (by omega)]

/-! The lines. -/
def crlf : List UInt8 := [13, 10]

theorem index_none (a : List UInt8) (h : ∀ c ∈ a, c ≠ 13) : Lib.index a crlf = -1 := by
  induction a with
  | nil => rfl
  | cons c a ih =>
    have hc : (13 == c) = false := by simp; exact fun e => h c (by simp) e.symm
    have := ih (fun d hd => h d (by simp [hd]))
    simp [Lib.index, crlf, List.isPrefixOf, hc] at this ⊢
    intro hh
    exact absurd this hh
theorem index_at (a r : List UInt8) (h : ∀ c ∈ a, c ≠ 13) : Lib.index (a ++ (crlf ++ r)) crlf = (a.length : Int) := by
  induction a with
  | nil => simp [crlf, Lib.index, List.isPrefixOf]
  | cons c a ih =>
    have hc : (13 == c) = false := by simp; exact fun e => h c (by simp) e.symm
    have hi := ih (fun d hd => h d (by simp [hd]))
    rw [List.cons_append, Lib.index]
    have hp : crlf.isPrefixOf (c :: (a ++ (crlf ++ r))) = false := by simp [crlf, List.isPrefixOf, hc]
    rw [hp, hi]
    simp only [Bool.false_eq_true, if_false]
    rw [if_neg (by simp)]
    simp

theorem encAt_ne (L : List UInt8) (i : Nat) : encAt L i ≠ 13 := by
  by_cases hf : 8 * (trio L i).length ≤ 6 * (i % 4)
  · rw [encAt_fill L i hf]; decide
  · rw [encAt_letter L i hf]
    exact (idx_abc ⟨(sx L i).toNat, sx_lt L i⟩).2.2.2

theorem text_line (L : List UInt8) (m : Nat) (hm : m ≤ 76) : (∀ c ∈ text L m, c ≠ 13) ∧ (text L m).length = m := by
  induction m with
  | zero => simp [text]
  | succ m ih =>
    have hs : sepAt m = [] := by unfold sepAt; rw [if_neg (by omega)]
    obtain ⟨h1, h2⟩ := ih (by omega)
    rw [text, hs]
    refine ⟨?_, by simp [h2]⟩
    intro c hc
    simp at hc
    rcases hc with hc | rfl
    · exact h1 c hc
    · exact encAt_ne L m

theorem count_line (a r : List UInt8) (h : ∀ c ∈ a, c ≠ 13) : Lib.count (a ++ (crlf ++ r)) crlf = 1 + Lib.count r crlf := by
  rw [Lib.count_hit (by simp [crlf]) (index_at a r h)]
  congr 2
  rw [show a.length + crlf.length = (a ++ crlf).length from by simp, ← List.append_assoc, List.drop_left]

theorem drop_line (a r : List UInt8) : (a ++ (crlf ++ r)).drop (a.length + crlf.length) = r := by
  rw [show a.length + crlf.length = (a ++ crlf).length from by simp, ← List.append_assoc, List.drop_left]

theorem lines_of (L : List UInt8) : ∀ N, L.length ≤ N → (∀ x ∈ Lib.splitK crlf 0 (Lib.count (encode L) crlf) (encode L), x.length ≤ 76) ∧
    (Lib.replaceK crlf [] (Lib.count (encode L) crlf) (encode L)).length = (L.length + 2) / 3 * 4 := by
  intro N
  induction N generalizing L with
  | zero =>
    intro h
    have : L = [] := List.length_eq_zero_iff.1 (by omega)
    subst this
    decide
  | succ N ih =>
    intro h
    by_cases hs : L.length ≤ 57
    · obtain ⟨h1, h2⟩ := text_line L ((L.length + 2) / 3 * 4) (by omega)
      have hi := index_none _ h1
      have e : encode L = text L ((L.length + 2) / 3 * 4) := rfl
      rw [e, Lib.count_miss hi]
      refine ⟨?_, h2⟩
      intro x hx
      simp [Lib.splitK] at hx
      subst hx
      rw [h2]
      omega
    · have hp := encode_parts L 1 (by omega)
      rw [if_pos (by decide)] at hp
      have ht : (L.take (57 * 1)).length = 57 := by rw [List.length_take]; omega
      obtain ⟨h1, h2⟩ := text_line (L.take (57 * 1)) 76 (by decide)
      have e : encode (L.take (57 * 1)) = text (L.take (57 * 1)) 76 := by unfold encode; rw [ht]
      rw [← e] at h1 h2
      generalize encode (L.take (57 * 1)) = a at *
      obtain ⟨g1, g2⟩ := ih (L.drop (57 * 1)) (by rw [List.length_drop]; omega)
      rw [List.length_drop] at g2
      generalize encode (L.drop (57 * 1)) = r at *
      have hp' : encode L = a ++ (crlf ++ r) := hp
      rw [hp', count_line a r h1, Nat.add_comm 1]
      have hi := index_at a r h1
      constructor
      · intro x hx
        rw [Lib.splitK, hi, if_neg (by simp), Int.toNat_natCast, drop_line, List.mem_cons] at hx
        rcases hx with rfl | hx
        · rw [Nat.add_zero, List.take_left, h2]; exact Nat.le_refl _
        · exact g1 x hx
      · rw [Lib.replaceK_hit crlf [] _ _ a.length hi, drop_line, List.take_left, List.append_nil, List.length_append, h2, g2]
        omega
end Go.Proofs.YtpgnkhaanoalhaaGreatDoor

/- Plain facts: pieces joined by a mark are split at it, and it can be left out. No program. -/
namespace Go.Proofs.YtpgnkhaanoalhaaGreatDoor

theorem index_sep_none (d : UInt8) (s a : List UInt8) (h : ∀ c ∈ a, c ≠ d) : Lib.index a (d :: s) = -1 := by
  induction a with
  | nil => rfl
  | cons c a ih =>
    have hc : (d == c) = false := by simp; exact fun e => h c (by simp) e.symm
    have := ih (fun e he => h e (by simp [he]))
    simp [Lib.index, List.isPrefixOf, hc, this]
theorem prefix_self (s r : List UInt8) : s.isPrefixOf (s ++ r) = true := by
  rw [List.isPrefixOf_iff_prefix]; exact List.prefix_append s r
theorem index_sep (d : UInt8) (s a r : List UInt8) (h : ∀ c ∈ a, c ≠ d) : Lib.index (a ++ ((d :: s) ++ r)) (d :: s) = (a.length : Int) := by
  induction a with
  | nil =>
    have := prefix_self (d :: s) r
    rw [List.cons_append] at this
    rw [List.nil_append, List.cons_append, Lib.index, if_pos this]
    rfl
  | cons c a ih =>
    have hc : (d == c) = false := by simp; exact fun e => h c (by simp) e.symm
    have hi := ih (fun e he => h e (by simp [he]))
    rw [List.cons_append, Lib.index]
    have hp : (d :: s).isPrefixOf (c :: (a ++ ((d :: s) ++ r))) = false := by simp [List.isPrefixOf, hc]
    rw [hp, hi]
    simp only [Bool.false_eq_true, if_false]
    rw [if_neg (by simp)]
    simp
theorem drop_sep (s a r : List UInt8) : (a ++ (s ++ r)).drop (a.length + s.length) = r := by
  rw [show a.length + s.length = (a ++ s).length from by simp, ← List.append_assoc, List.drop_left]
theorem count_sep (d : UInt8) (s a r : List UInt8) (h : ∀ c ∈ a, c ≠ d) : Lib.count (a ++ ((d :: s) ++ r)) (d :: s) = Lib.count r (d :: s) + 1 := by
  rw [Lib.count_hit (by simp) (index_sep d s a r h), drop_sep, Nat.add_comm]

/-- Pieces, with a mark between. -/
def joinG (s : List UInt8) : List UInt8 → List (List UInt8) → List UInt8
  | a, [] => a
  | a, b :: t => a ++ (s ++ joinG s b t)

theorem split_join (d : UInt8) (s : List UInt8) : ∀ (t : List (List UInt8)) (a : List UInt8), (∀ x ∈ a :: t, ∀ c ∈ x, c ≠ d) →
    Lib.splitK (d :: s) 0 (Lib.count (joinG (d :: s) a t) (d :: s)) (joinG (d :: s) a t) = a :: t := by
  intro t
  induction t with
  | nil => intro a h; rw [joinG, Lib.count_miss (index_sep_none d s a (h a (by simp)))]; rfl
  | cons b t ih =>
    intro a h
    have ha := h a (by simp)
    rw [joinG, count_sep d s a _ ha, Lib.splitK, index_sep d s a _ ha, if_neg (by simp), Int.toNat_natCast, drop_sep, ih b (fun x hx => h x (by simp at hx ⊢; right; exact hx)), Nat.add_zero, List.take_left]
theorem replace_join (d : UInt8) (s n : List UInt8) : ∀ (t : List (List UInt8)) (a : List UInt8), (∀ x ∈ a :: t, ∀ c ∈ x, c ≠ d) →
    Lib.replaceK (d :: s) n (Lib.count (joinG (d :: s) a t) (d :: s)) (joinG (d :: s) a t) = joinG n a t := by
  intro t
  induction t with
  | nil => intro a h; rw [joinG, Lib.count_miss (index_sep_none d s a (h a (by simp)))]; rfl
  | cons b t ih =>
    intro a h
    have ha := h a (by simp)
    rw [joinG, count_sep d s a _ ha, Lib.replaceK_hit _ _ _ _ a.length (index_sep d s a _ ha), drop_sep, ih b (fun x hx => h x (by simp at hx ⊢; right; exact hx)), List.take_left, joinG]
    simp
theorem joinG_nil : ∀ (t : List (List UInt8)) (a : List UInt8), joinG [] a t = (a :: t).flatten := by
  intro t
  induction t with
  | nil => intro a; simp [joinG]
  | cons b t ih => intro a; rw [joinG, ih b]; simp

end Go.Proofs.YtpgnkhaanoalhaaGreatDoor

/- Plain facts: the lines of what is written as printable signs. No program. -/
namespace Go.Proofs.YtpgnkhaanoalhaaGreatDoor

/-- The groups of bytes that stand on whole lines. -/
def linesOf (gs : List (List UInt8)) : List UInt8 := gs.flatMap fun g => qs g ++ [61, 13, 10]

theorem qst_groups (L : List UInt8) : ∀ k, k ≤ L.length → ∃ gs h, qst L k = (linesOf gs, qs h) ∧ gs.flatten ++ h = L.take k ∧ (∀ g ∈ gs, 25 ≤ g.length ∧ (qs g).length ≤ 75) ∧ (qs h).length ≤ 75 := by
  intro k
  induction k with
  | zero => intro _; exact ⟨[], [], rfl, by simp, by simp, by simp [qs]⟩
  | succ k ih =>
    intro hk
    obtain ⟨gs, h, e, e2, h3, h4⟩ := ih (by omega)
    have hg : L.getD k 0 = L[k] := by simp [List.getD_eq_getElem?_getD, List.getElem?_eq_getElem (show k < L.length by omega)]
    have ht : L.take (k + 1) = L.take k ++ [L[k]] := by rw [List.take_append_getElem]
    rw [qst, e, qstep, hg, ht, ← e2]
    generalize L[k] = c
    have hq := q1_length c
    have ec : qs [c] = q1 c := by simp [qs]
    simp only
    split
    · rename_i hw
      refine ⟨gs ++ [h], [c], ?_, by simp, ?_, by rw [ec]; omega⟩
      · simp [linesOf, ec]
      · intro g hg
        rw [List.mem_append] at hg
        rcases hg with hg | hg
        · exact h3 g hg
        · simp at hg
          subst hg
          have := qs_length g
          exact ⟨by omega, h4⟩
    · rename_i hw
      refine ⟨gs, h ++ [c], ?_, by simp, h3, ?_⟩
      · rw [qs_append, ec]
      · rw [qs_append, ec, List.length_append]; omega

theorem linesOf_rend : ∀ (gs : List (List UInt8)) (h : List UInt8), ∃ k v, linesOf gs ++ qs h = rendG k v ∧ k :: v = gs ++ [h] := by
  intro gs
  induction gs with
  | nil => intro h; exact ⟨h, [], by simp [linesOf, rendG], rfl⟩
  | cons g gs ih =>
    intro h
    obtain ⟨k, v, e1, e2⟩ := ih h
    refine ⟨g, k :: v, ?_, ?_⟩
    · rw [rendG, ← e1]; simp [linesOf]
    · rw [e2]; rfl

/-- What is written, as lines. -/
theorem enc_lines (L : List UInt8) : ∃ g t, encQ L = rendG g t ∧ (g :: t).flatten = L ∧ (∀ x ∈ g :: t, (qs x).length ≤ 75) ∧ 25 * t.length ≤ L.length := by
  obtain ⟨gs, h, e, e2, h3, h4⟩ := qst_groups L L.length (Nat.le_refl _)
  obtain ⟨k, v, e3, e4⟩ := linesOf_rend gs h
  refine ⟨k, v, ?_, ?_, ?_, ?_⟩
  · unfold encQ; rw [e]; exact e3
  · rw [e4]; simpa using e2
  · intro x hx
    rw [e4, List.mem_append] at hx
    rcases hx with hx | hx
    · exact (h3 x hx).2
    · simp at hx; subst hx; exact h4
  · have hv : v.length = gs.length := by have := congrArg List.length e4; simpa using this
    have hl : gs.flatten.length ≤ L.length := by have := congrArg List.length e2; simp only [List.length_append, List.take_length] at this; omega
    rw [hv]
    refine Nat.le_trans ?_ hl
    clear e e2 e3 e4 hv hl
    induction gs with
    | nil => simp
    | cons g gs ih =>
      have := (h3 g (by simp)).1
      have := ih (fun x hx => h3 x (by simp [hx]))
      simp only [List.flatten_cons, List.length_append, List.length_cons]
      omega

theorem rend_length : ∀ (t : List (List UInt8)) (g : List UInt8), (rendG g t).length ≤ 3 * (g :: t).flatten.length + 3 * t.length := by
  intro t
  induction t with
  | nil => intro g; have := qs_length g; simp [rendG]; omega
  | cons h t ih => intro g; have := ih h; have := qs_length g; simp [rendG] at *; omega
theorem enc_length (L : List UInt8) : 25 * (encQ L).length ≤ 78 * L.length := by
  obtain ⟨g, t, e, e2, _, h4⟩ := enc_lines L
  have := rend_length t g
  rw [e2, ← e] at this
  omega

/-- WHAT IS WRITTEN IS READ. -/
theorem readQ_enc (L : List UInt8) (h : L.length ≤ 4000) : readQ (encQ L) = (L, 0) := by
  have hl := enc_length L
  obtain ⟨g, t, e, e2, _, _⟩ := enc_lines L
  rw [e] at hl ⊢
  rw [readQ_rend g t (by rw [e2]; exact h) (by omega), e2]
/-- What is written in two parts is read as both. -/
theorem readQ_two (L M : List UInt8) (h : L.length + M.length ≤ 4000) : readQ (encQ L ++ encQ M) = (L ++ M, 0) := by
  have hl := enc_length L
  have hm := enc_length M
  have hb : (encQ L ++ encQ M).length ≤ 16000 := by rw [List.length_append]; omega
  obtain ⟨g, t, e, e2, _, _⟩ := enc_lines L
  obtain ⟨g', t', e', e2', _, _⟩ := enc_lines M
  obtain ⟨k, v, e3, e4⟩ := rend_append t g g' t'
  rw [e, e'] at hb ⊢
  rw [e3] at hb ⊢
  rw [e2, e2'] at e4
  rw [readQ_rend k v (by rw [e4, List.length_append]; exact h) hb, e4]

/-- The lines as they stand there. -/
def rows : List UInt8 → List (List UInt8) → List (List UInt8)
  | g, [] => [qs g]
  | g, h :: t => (qs g ++ [61]) :: rows h t
theorem rend_rows : ∀ (t : List (List UInt8)) (g : List UInt8), ∃ a u, rows g t = a :: u ∧ rendG g t = joinG [13, 10] a u := by
  intro t
  induction t with
  | nil => intro g; exact ⟨qs g, [], rfl, rfl⟩
  | cons h t ih =>
    intro g
    obtain ⟨a, u, e1, e2⟩ := ih h
    refine ⟨qs g ++ [61], a :: u, by rw [rows, e1], ?_⟩
    rw [rendG, e2, joinG]
    simp
theorem rows_facts : ∀ (t : List (List UInt8)) (g : List UInt8), (∀ x ∈ g :: t, (qs x).length ≤ 75) → ∀ x ∈ rows g t, x.length ≤ 76 ∧ ∀ c ∈ x, 33 ≤ c.toNat ∧ c.toNat ≤ 126 := by
  intro t
  induction t with
  | nil =>
    intro g h x hx
    simp [rows] at hx
    subst hx
    exact ⟨by have := h g (by simp); omega, qs_printable g⟩
  | cons b t ih =>
    intro g h x hx
    rw [rows, List.mem_cons] at hx
    rcases hx with rfl | hx
    · refine ⟨by have := h g (by simp); simp; omega, ?_⟩
      intro c hc
      rw [List.mem_append] at hc
      rcases hc with hc | hc
      · exact qs_printable g c hc
      · simp at hc; subst hc; decide
    · exact ih b (fun y hy => h y (by simp at hy ⊢; right; exact hy)) x hx

/-- No line is too wide, and all of it is printable. -/
theorem enc_wide (L : List UInt8) : (∀ x ∈ Lib.splitK [13, 10] 0 (Lib.count (encQ L) [13, 10]) (encQ L), x.length ≤ 76) ∧
    (∀ c ∈ Lib.replaceK [13, 10] [] (Lib.count (encQ L) [13, 10]) (encQ L), 33 ≤ c.toNat ∧ c.toNat ≤ 126) := by
  obtain ⟨g, t, e, _, h3, _⟩ := enc_lines L
  obtain ⟨a, u, e1, e2⟩ := rend_rows t g
  have hf := rows_facts t g h3
  rw [e1] at hf
  have hn : ∀ x ∈ a :: u, ∀ c ∈ x, c ≠ 13 := by
    intro x hx c hc ec
    have := (hf x hx).2 c hc
    rw [ec] at this
    revert this; decide
  rw [e, e2, split_join 13 [10] u a hn, replace_join 13 [10] [] u a hn, joinG_nil]
  refine ⟨fun x hx => (hf x hx).1, fun c hc => ?_⟩
  rw [List.mem_flatten] at hc
  obtain ⟨x, hx, hc⟩ := hc
  exact (hf x hx).2 c hc

theorem qs_plain (g : List UInt8) (h : ∀ c ∈ g, plainQ c = true) : qs g = g := by
  induction g with
  | nil => rfl
  | cons c g ih => rw [qs_cons, ih (fun x hx => h x (by simp [hx])), q1, if_pos (h c (by simp))]; rfl
theorem rend_plain : ∀ (t : List (List UInt8)) (g : List UInt8), (∀ x ∈ g :: t, ∀ c ∈ x, plainQ c = true) → rendG g t = joinG [61, 13, 10] g t := by
  intro t
  induction t with
  | nil => intro g h; rw [rendG, joinG, qs_plain g (h g (by simp))]
  | cons b t ih => intro g h; rw [rendG, joinG, qs_plain g (h g (by simp)), ih b (fun x hx => h x (by simp at hx ⊢; right; exact hx))]
/-- What is plain stands there as it is. -/
theorem enc_plain (L : List UInt8) (h : ∀ c ∈ L, plainQ c = true) : Lib.replaceK [61, 13, 10] [] (Lib.count (encQ L) [61, 13, 10]) (encQ L) = L := by
  obtain ⟨g, t, e, e2, _, _⟩ := enc_lines L
  have hp : ∀ x ∈ g :: t, ∀ c ∈ x, plainQ c = true := by
    intro x hx c hc
    apply h
    rw [← e2, List.mem_flatten]
    exact ⟨x, hx, hc⟩
  have hn : ∀ x ∈ g :: t, ∀ c ∈ x, c ≠ 61 := by
    intro x hx c hc ec
    have := hp x hx c hc
    rw [ec] at this
    revert this; decide
  rw [e, rend_plain t g hp, replace_join 61 [13, 10] [] t g hn, joinG_nil, e2]
end Go.Proofs.YtpgnkhaanoalhaaGreatDoor

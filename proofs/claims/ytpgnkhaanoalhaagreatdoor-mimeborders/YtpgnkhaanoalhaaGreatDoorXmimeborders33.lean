/- Plain facts: the border that is the least number's stands in no text. No program. -/
import Derived.Test.YtpgnkhaanoalhaaGreatDoorXmimeborders30
import Derived.Lib.IndexMore
import Derived.Lib.ItoaNum
import Derived.Test.YtpgnkhaanoalhaaGreatDoorXmimeborders1
namespace Go.Proofs.YtpgnkhaanoalhaaGreatDoor

theorem digC_of (d : Nat) (h : d < 10) : digC (UInt8.ofNat (48 + d)) = true ∧ (UInt8.ofNat (48 + d)).toNat - 48 = d := by
  have e : (UInt8.ofNat (48 + d)).toNat = 48 + d := by rw [UInt8.toNat_ofNat']; omega
  refine ⟨?_, by rw [e]; omega⟩
  unfold digC
  rw [e]
  simp
  omega
theorem digs_at (n m d : Nat) (r : List UInt8) (h : d < 10) (hm : 10 * n + d = m) (h0 : m ≠ 0) (h1 : m < 1000000) : digsFrom n (UInt8.ofNat (48 + d) :: r) = m :: digsFrom m r := by
  obtain ⟨e1, e2⟩ := digC_of d h
  rw [digsFrom, if_pos e1, e2, hm, if_neg (by omega)]
/-- A number's digits: it is among what stands there. -/
theorem digs_has : ∀ (k n : Nat) (r : List UInt8), n < k → n ≠ 0 → n < 1000000 → ∃ pre, digsFrom 0 (Lib.decDigits n ++ r) = pre ++ (n :: digsFrom n r)
  | 0, n, r, h, _, _ => absurd h (Nat.not_lt_zero _)
  | k + 1, n, r, hk, h0, h1 => by
    by_cases h : n < 10
    · rw [Lib.decDigits, dif_pos h]
      exact ⟨[], by rw [List.singleton_append, digs_at 0 n n r h (by omega) h0 h1]; rfl⟩
    · rw [Lib.decDigits, dif_neg h, List.append_assoc, List.singleton_append]
      obtain ⟨pre, e⟩ := digs_has k (n / 10) (UInt8.ofNat (48 + n % 10) :: r) (by omega) (by omega) (by omega)
      refine ⟨pre ++ [n / 10], ?_⟩
      rw [e, digs_at (n / 10) n (n % 10) r (by omega) (by omega) h0 h1]
      simp

theorem occ_iff (s sub : List UInt8) (i : Nat) : Lib.occAt s sub i = true ↔ ∃ post, s.drop i = sub ++ post := by
  unfold Lib.occAt
  rw [List.isPrefixOf_iff_prefix]
  constructor
  · rintro ⟨t, h⟩; exact ⟨t, h.symm⟩
  · rintro ⟨t, h⟩; exact ⟨t, h.symm⟩

theorem mark_apart (s a b : List UInt8) (i j : Nat) (ha : s.drop i = mark4 ++ a) (hb : s.drop j = mark4 ++ b) (h : i < j) : i + 4 ≤ j := by
  have key : ∀ d, 1 ≤ d → d ≤ 3 → j = i + d → False := by
    intro d h1 h2 hj
    rw [hj, ← List.drop_drop, ha] at hb
    unfold mark4 at hb
    match d, h1, h2 with
    | 1, _, _ => simp at hb
    | 2, _, _ => simp at hb
    | 3, _, _ => simp at hb
  apply Classical.byContradiction
  intro hn
  exact key (j - i) (by omega) (by omega) (by omega)

theorem cut_at {s : List UInt8} {i : Nat} (h : Lib.index s mark4 = i) : Lib.cut s mark4 = (s.take i, s.drop (i + 4), true) := by
  unfold Lib.cut
  rw [h, if_pos (by omega)]
  rfl

theorem taken_has : ∀ (f : Nat) (s pre post : List UInt8) (n : Nat), s.length < f → s = pre ++ (mark4 ++ (Lib.decDigits n ++ post)) → n ≠ 0 → n < 1000000 → n ∈ takenGo f s
  | 0, s, _, _, _, h, _, _, _ => absurd h (Nat.not_lt_zero _)
  | f + 1, s, pre, post, n, hf, hs, h0, h1 => by
    have hd : s.drop pre.length = mark4 ++ (Lib.decDigits n ++ post) := by rw [hs, List.drop_left]
    have ho : Lib.occAt s mark4 pre.length = true := (occ_iff _ _ _).2 ⟨_, hd⟩
    have hl : pre.length ≤ s.length := by rw [hs, List.length_append]; omega
    rcases Lib.index_spec s mark4 with ⟨_, hno⟩ | ⟨i, hi, hile, hocc, hnone⟩
    · rw [hno _ hl] at ho; cases ho
    · have hip : i ≤ pre.length := by
        apply Classical.byContradiction
        intro hn
        have := hnone pre.length (by omega)
        rw [this] at ho
        cases ho
      rw [takenGo, cut_at hi, if_pos rfl]
      simp only
      rw [List.mem_append]
      by_cases e : i = pre.length
      · left
        have hdd : s.drop (i + 4) = Lib.decDigits n ++ post := by
          rw [← List.drop_drop, e, hd]
          rfl
        obtain ⟨q, hq⟩ := digs_has (n + 1) n post (by omega) h0 h1
        rw [hdd, hq]
        simp
      · right
        obtain ⟨a, ha⟩ := (occ_iff _ _ _).1 hocc
        have h4 := mark_apart s a _ i pre.length ha hd (by omega)
        refine taken_has f (s.drop (i + 4)) (pre.drop (i + 4)) post n ?_ ?_ h0 h1
        · rw [List.length_drop]
          have : 4 ≤ s.length := by omega
          omega
        · rw [hs, List.drop_append_of_le_length h4]

theorem digs_few : ∀ (l : List UInt8) (n j : Nat), 10 ^ j ≤ n → j ≤ 5 → (digsFrom n l).length ≤ 5 - j
  | [], n, j, _, _ => by rw [digsFrom]; simp
  | c :: r, n, j, h, hj => by
    rw [digsFrom]
    split
    · split
      · simp
      · rename_i h1 h2
        have hp : 10 ^ (j + 1) ≤ 10 * n + (c.toNat - 48) := by rw [Nat.pow_succ]; omega
        by_cases h5 : j = 5
        · subst h5
          exact absurd hp (by omega)
        · have := digs_few r (10 * n + (c.toNat - 48)) (j + 1) hp (by omega)
          rw [List.length_cons]
          omega
    · simp
theorem digs_six (l : List UInt8) : (digsFrom 0 l).length ≤ 6 := by
  cases l with
  | nil => rw [digsFrom]; simp
  | cons c r =>
    rw [digsFrom]
    split
    · split
      · simp
      · rename_i h1 h2
        have := digs_few r (10 * 0 + (c.toNat - 48)) 0 (by rw [Nat.pow_zero]; omega) (by omega)
        rw [List.length_cons]
        omega
    · simp
theorem taken_two : ∀ (f : Nat) (s : List UInt8), (takenGo f s).length ≤ 2 * s.length
  | 0, s => by rw [takenGo]; simp
  | f + 1, s => by
    rw [takenGo]
    rcases Lib.index_spec s mark4 with ⟨hi, _⟩ | ⟨i, hi, _⟩
    · have : (Lib.cut s mark4).2.2 = false := by unfold Lib.cut; rw [hi]; rfl
      rw [this]
      simp
    · rw [cut_at hi, if_pos rfl]
      have h1 := digs_six (s.drop (i + 4))
      have h2 := taken_two f (s.drop (i + 4))
      have h3 := Lib.index_room s mark4 (by rw [hi]; omega)
      have h4 : mark4.length = 4 := rfl
      rw [hi, h4] at h3
      rw [List.length_drop] at h2
      simp only
      rw [List.length_append]
      omega

theorem fold_gt : ∀ (zs : List Int) (a : Int), (∀ z ∈ zs, a < z) → zs.foldl stepL a = a
  | [], a, _ => rfl
  | z :: zs, a, h => by
    rw [List.foldl_cons]
    have h1 := h z (by simp)
    have e : stepL a z = a := by unfold stepL; rw [if_neg (by omega)]
    rw [e]
    exact fold_gt zs a (fun y hy => h y (by simp [hy]))
theorem fold_free : ∀ (zs : List Int) (a : Int), zs.Pairwise (· ≤ ·) → ∀ z ∈ zs, z ≠ zs.foldl stepL a
  | [], a, _, z, hz => by simp at hz
  | y :: zs, a, hp, z, hz => by
    rw [List.pairwise_cons] at hp
    rw [List.foldl_cons]
    have hle := (fold_le zs (stepL a y)).1
    rcases List.mem_cons.1 hz with rfl | hz
    · by_cases h1 : z = a
      · have e : stepL a z = a + 1 := by unfold stepL; rw [if_pos h1]
        rw [e] at hle ⊢
        omega
      · have e : stepL a z = a := by unfold stepL; rw [if_neg h1]
        rw [e] at hle ⊢
        by_cases h2 : z < a
        · omega
        · rw [fold_gt zs a (fun x hx => by have := hp.1 x hx; omega)]
          exact h1
    · exact fold_free zs (stepL a y) hp.2 z hz
theorem least_free (zs : List Int) : ∀ z ∈ zs, z ≠ leastScan (sortZ zs) := fun z hz => by
  have hp : (sortZ zs).Pairwise (· ≤ ·) := by
    have := List.pairwise_mergeSort (le := fun x y : Int => decide (x ≤ y)) (by intro a b c; simp; omega) (by intro a b; simp; omega) zs
    refine this.imp ?_
    intro a b h
    simpa using h
  exact fold_free (sortZ zs) 1 hp z (by unfold sortZ; rw [List.mem_mergeSort]; exact hz)

theorem total_taken : ∀ (ts : List (List UInt8)), (ts.flatMap takenOf).length ≤ 2 * (ts.map List.length).sum
  | [] => by simp
  | t :: ts => by
    have h1 := taken_two (t.length + 1) t
    have h2 := total_taken ts
    rw [List.flatMap_cons, List.length_append, List.map_cons, List.sum_cons]
    unfold takenOf at h2 ⊢
    omega

def dd2 : List UInt8 := [45, 45]
/-- The border of a number. -/
def brd (n : Int) : List UInt8 := [61, 95] ++ Lib.itoa n
theorem least_range (ts : List (List UInt8)) : 1 ≤ leastP ts ∧ leastP ts ≤ 2 * (ts.map List.length).sum + 1 := by
  have h := leastScan_le (sortZ ((ts.flatMap takenOf).map fun (n : Nat) => (n : Int)))
  have h2 := total_taken ts
  have h3 : (sortZ ((ts.flatMap takenOf).map fun (n : Nat) => (n : Int))).length = (ts.flatMap takenOf).length := by unfold sortZ; rw [List.length_mergeSort, List.length_map]
  rw [h3] at h
  unfold leastP
  omega
theorem brd_nat (n : Int) (h : 1 ≤ n) : brd n = [61, 95] ++ Lib.decDigits n.toNat := by
  unfold brd Lib.itoa
  rw [if_neg (by omega)]
/-- The border of the least number stands in no text. -/
theorem least_border (ts : List (List UInt8)) (h : (ts.map List.length).sum ≤ 400000) : ∀ t ∈ ts, ¬ (dd2 ++ brd (leastP ts)) <:+: t := by
  rintro t ht ⟨pre, post, e⟩
  obtain ⟨h1, h2⟩ := least_range ts
  rw [brd_nat _ h1] at e
  have hin : (leastP ts).toNat ∈ takenOf t := by
    refine taken_has (t.length + 1) t pre post _ (by omega) ?_ (by omega) (by omega)
    rw [← e]
    simp [dd2, mark4]
  have hm : ((leastP ts).toNat : Int) ∈ (ts.flatMap takenOf).map fun (n : Nat) => (n : Int) := by
    rw [List.mem_map]
    exact ⟨_, List.mem_flatMap.2 ⟨t, ht, hin⟩, rfl⟩
  have := least_free _ _ hm
  apply this
  show _ = leastP ts
  omega

theorem dec_digits : ∀ (k n : Nat), n < k → ∀ c ∈ Lib.decDigits n, 48 ≤ c.toNat ∧ c.toNat ≤ 57
  | 0, n, h, _, _ => absurd h (Nat.not_lt_zero _)
  | k + 1, n, hk, c, hc => by
    have one : ∀ d, d < 10 → c = UInt8.ofNat (48 + d) → 48 ≤ c.toNat ∧ c.toNat ≤ 57 := by
      rintro d hd rfl
      rw [UInt8.toNat_ofNat']
      omega
    rw [Lib.decDigits] at hc
    split at hc
    · rename_i h
      exact one n h (by simpa using hc)
    · rename_i h
      rcases List.mem_append.1 hc with hc | hc
      · exact dec_digits k (n / 10) (by omega) c hc
      · exact one (n % 10) (by omega) (by simpa using hc)
theorem dec_pos (n : Nat) : Lib.decDigits n ≠ [] := by
  intro h
  have h1 := Lib.decDigits_length n
  have h2 := Lib.nDigits_pos n
  rw [h] at h1
  simp at h1
  omega
theorem dec_few : ∀ (k n : Nat), n < 10 ^ (k + 1) → (Lib.decDigits n).length ≤ k + 1
  | 0, n, h => by
    rw [Lib.decDigits, dif_pos (by simpa using h)]
    simp
  | k + 1, n, h => by
    rw [Lib.decDigits]
    split
    · simp
    · rw [Nat.pow_succ] at h
      have := dec_few k (n / 10) (by omega)
      rw [List.length_append]
      simp
      omega
/-- What a border is made of. -/
theorem brd_facts (n : Int) (h1 : 1 ≤ n) (h2 : n < 10000000) : brd n ≠ [] ∧ (brd n).length ≤ 9 ∧ ∀ c ∈ brd n, 48 ≤ c.toNat ∧ c.toNat ≤ 57 ∨ c = 61 ∨ c = 95 := by
  rw [brd_nat n h1]
  have h3 := dec_few 6 n.toNat (by omega)
  refine ⟨by simp, by rw [List.length_append]; simp; omega, fun c hc => ?_⟩
  rcases List.mem_append.1 hc with hc | hc
  · simp at hc
    rcases hc with rfl | rfl
    · exact .inr (.inl rfl)
    · exact .inr (.inr rfl)
  · exact .inl (dec_digits _ _ (Nat.lt_succ_self _) c hc)
end Go.Proofs.YtpgnkhaanoalhaaGreatDoor

/- Plain facts: what stands between borders, where no line is one, is what was put there. No program. -/
namespace Go.Proofs.YtpgnkhaanoalhaaGreatDoor

def crlf2 : List UInt8 := [13, 10]
/-- A text behind its border. -/
def pieceT (br t : List UInt8) : List UInt8 := dd ++ br ++ crlf2 ++ (t ++ crlf2)
def lastT (br : List UInt8) : List UInt8 := dd ++ br ++ dd ++ crlf2

theorem lineN_at : ∀ (a r : List UInt8), (∀ c ∈ a, c ≠ 10) → lineN (a ++ 10 :: r) = a.length + 1
  | [], r, _ => by rw [List.nil_append, lineN, if_pos rfl]; rfl
  | c :: a, r, h => by
    rw [List.cons_append, lineN, if_neg (h c (by simp)), lineN_at a r (fun x hx => h x (by simp [hx]))]
    rfl
theorem take10_at (a r : List UInt8) : (a ++ 10 :: r).take (a.length + 1) = a ++ [10] := by
  rw [show a ++ 10 :: r = (a ++ [10]) ++ r from by simp]
  exact List.take_left' (by simp)
theorem drop10_at (a r : List UInt8) : (a ++ 10 :: r).drop (a.length + 1) = r := by
  rw [show a ++ 10 :: r = (a ++ [10]) ++ r from by simp]
  exact List.drop_left' (by simp)
theorem dropEnd_pre (p : UInt8 → Bool) (l : List UInt8) : ∃ t, l = dropEnd p l ++ t := by
  unfold dropEnd
  have h := List.takeWhile_append_dropWhile (p := p) (l := l.reverse)
  refine ⟨(l.reverse.takeWhile p).reverse, ?_⟩
  rw [← List.reverse_append, h, List.reverse_reverse]
/-- A line that is a border's has it in it. -/
theorem bare_infix (l br e : List UInt8) (h : bareL l = dd ++ br ++ e) : dd ++ br <:+: l := by
  obtain ⟨t, ht⟩ := dropEnd_pre endC l
  unfold bareL at h
  rw [h] at ht
  exact ⟨[], e ++ t, by rw [ht]; simp⟩
theorem mem10 : ∀ (x : List UInt8), 10 ∈ x → ∃ a r, x = a ++ 10 :: r ∧ ∀ c ∈ a, c ≠ 10
  | [], h => by simp at h
  | c :: x, h => by
    by_cases e : c = 10
    · exact ⟨[], x, by rw [e]; rfl, by simp⟩
    · obtain ⟨a, r, h1, h2⟩ := mem10 x (by rcases List.mem_cons.1 h with h | h; exact absurd h.symm e; exact h)
      refine ⟨c :: a, r, by rw [h1]; rfl, fun y hy => ?_⟩
      rcases List.mem_cons.1 hy with rfl | hy
      · exact e
      · exact h2 y hy

/-- Lines that are no borders are taken as they are. -/
theorem split_over (br : List UInt8) (more : List UInt8) (out : List (List UInt8)) : ∀ (n : Nat) (x : List UInt8) (cur : Option (List UInt8)) (f : Nat), x.length ≤ n → (x = [] ∨ x.getLast? = some 10) → ¬ (dd ++ br) <:+: x → (x ++ more).length < f →
    ∃ f', more.length < f' ∧ splitGo br f (x ++ more) cur out = splitGo br f' more (cur.map (· ++ x)) out
  | n, [], cur, f, _, _, _, hf => ⟨f, hf, by
      have : cur.map (· ++ ([] : List UInt8)) = cur := by cases cur <;> simp
      rw [this]; rfl⟩
  | 0, c :: x, cur, f, h, _, _, _ => absurd h (by simp)
  | n + 1, c :: x, cur, f, hn, hl, hno, hf => by
    have hl : (c :: x).getLast? = some 10 := by rcases hl with h | h; exact absurd h (by simp); exact h
    obtain ⟨a, r, e, ha⟩ := mem10 (c :: x) (List.mem_of_getLast? hl)
    rw [e] at hn hl hno hf ⊢
    clear e
    obtain ⟨f', rfl⟩ : ∃ f', f = f' + 1 := ⟨f - 1, by omega⟩
    have ee : a ++ 10 :: r ++ more = a ++ 10 :: (r ++ more) := by simp
    have hln : lineN (a ++ 10 :: (r ++ more)) = a.length + 1 := lineN_at a _ ha
    have htk := take10_at a (r ++ more)
    have hdr := drop10_at a (r ++ more)
    have hin : a ++ [10] <:+: a ++ 10 :: r := ⟨[], r, by simp⟩
    have hb1 : ¬ bareL (a ++ [10]) = dd ++ br ++ dd := fun h => hno ((bare_infix _ _ _ h).trans hin)
    have hb2 : ¬ bareL (a ++ [10]) = dd ++ br := fun h => hno ((bare_infix _ br [] (by rw [List.append_nil]; exact h)).trans hin)
    have hr : r = [] ∨ r.getLast? = some 10 := by
      cases r with
      | nil => exact .inl rfl
      | cons d r =>
        right
        rw [List.getLast?_append] at hl
        simpa using hl
    obtain ⟨f2, hf2, h2⟩ := split_over br more out n r (cur.map (· ++ (a ++ [10]))) f' (by rw [List.length_append, List.length_cons] at hn; omega) hr (fun h => hno (h.trans ⟨a ++ [10], [], by simp⟩)) (by rw [ee] at hf; rw [List.length_append, List.length_cons] at hf; omega)
    refine ⟨f2, hf2, ?_⟩
    rw [ee, splitGo, if_neg (by simp), hln, htk, hdr, if_neg hb1, if_neg hb2, h2]
    congr 1
    cases cur with
    | none => rfl
    | some z => simp

theorem strip_crlf (t : List UInt8) : stripE (t ++ crlf2) = t := by
  unfold stripE noEnd crlf2
  have e : t ++ [13, 10] = (t ++ [13]) ++ [10] := by simp
  rw [e, if_pos (by simp), List.dropLast_concat, if_pos (by simp), List.dropLast_concat]
theorem bare_end (a : List UInt8) (h : ∀ c, a.getLast? = some c → endC c = false) : bareL (a ++ crlf2) = a := by
  unfold bareL crlf2
  rw [show a ++ [13, 10] = (a ++ [13]) ++ [10] from by simp, dropEnd_yes _ _ _ (by decide), dropEnd_yes _ _ _ (by decide), dropEnd_last _ _ h]

/-- What a border may be made of. -/
def BrOk (br : List UInt8) : Prop := br ≠ [] ∧ ∀ c ∈ br, endC c = false
theorem br_no10 {br : List UInt8} (h : BrOk br) : ∀ c ∈ br, c ≠ 10 := fun c hc e => by
  have := h.2 c hc
  rw [e] at this
  exact absurd this (by decide)
theorem no_infix {br : List UInt8} (h : BrOk br) (t : List UInt8) (hno : ¬ (dd ++ br) <:+: t) : ¬ (dd ++ br) <:+: t ++ crlf2 := by
  obtain ⟨y, c, rfl⟩ : ∃ y c, br = y ++ [c] := by
    rcases List.eq_nil_or_concat br with e | ⟨y, c, e⟩
    · exact absurd e h.1
    · exact ⟨y, c, by rw [e, List.concat_eq_append]⟩
  have hc := h.2 c (by simp)
  have key : ∀ (d : UInt8) (l : List UInt8), endC d = true → ¬ (dd ++ (y ++ [c])) <:+: l → ¬ (dd ++ (y ++ [c])) <:+: l ++ [d] := by
    intro d l hd hl hi
    rw [List.infix_concat_iff, List.suffix_concat_iff] at hi
    rcases hi with (hi | ⟨t, h1, _⟩) | hi
    · simp [dd] at hi
    · have h2 := congrArg List.getLast? h1
      rw [← List.append_assoc] at h2
      simp at h2
      rw [h2, hd] at hc
      cases hc
    · exact hl hi
  unfold crlf2
  rw [show t ++ [13, 10] = (t ++ [13]) ++ [10] from by simp]
  exact key 10 _ (by decide) (key 13 _ (by decide) hno)

/-- The lines with borders. -/
theorem splitM_last (br behind : List UInt8) (h : BrOk br) (f : Nat) (cur : Option (List UInt8)) (out : List (List UInt8)) : splitGo br (f + 1) (lastT br ++ behind) cur out = some (closed cur out) := by
  have e : lastT br ++ behind = (dd ++ br ++ dd ++ [13]) ++ 10 :: behind := by simp [lastT, crlf2]
  have hno : ∀ c ∈ dd ++ br ++ dd ++ [13], c ≠ 10 := by
    intro c hc
    simp only [dd, List.mem_append, List.mem_cons, List.not_mem_nil, or_false] at hc
    rcases hc with ((hc | hc) | hc) | hc
    · rcases hc with rfl | rfl <;> decide
    · exact br_no10 h c hc
    · rcases hc with rfl | rfl <;> decide
    · rw [hc]; decide
  rw [e, splitGo, if_neg (by simp), lineN_at _ _ hno, take10_at, show dd ++ br ++ dd ++ [13] ++ [10] = (dd ++ br ++ dd) ++ crlf2 from by simp [crlf2], bare_end _ (by intro c hc; rw [List.getLast?_append] at hc; simp [dd] at hc; rw [← hc]; decide), if_pos rfl]
theorem splitM_next (br r : List UInt8) (h : BrOk br) (f : Nat) (cur : Option (List UInt8)) (out : List (List UInt8)) : splitGo br (f + 1) (dd ++ br ++ crlf2 ++ r) cur out = splitGo br f r (some []) (closed cur out) := by
  have e : dd ++ br ++ crlf2 ++ r = (dd ++ br ++ [13]) ++ 10 :: r := by simp [crlf2]
  have hno : ∀ c ∈ dd ++ br ++ [13], c ≠ 10 := by
    intro c hc
    simp only [dd, List.mem_append, List.mem_cons, List.not_mem_nil, or_false] at hc
    rcases hc with (hc | hc) | hc
    · rcases hc with rfl | rfl <;> decide
    · exact br_no10 h c hc
    · rw [hc]; decide
  have hend : ∀ c, (dd ++ br).getLast? = some c → endC c = false := by
    intro c hc
    rw [List.getLast?_append] at hc
    cases hb : br.getLast? with
    | none => exact absurd (List.getLast?_eq_none_iff.1 hb) h.1
    | some d =>
      rw [hb] at hc
      simp at hc
      rw [← hc]
      exact h.2 d (List.mem_of_getLast? hb)
  rw [e, splitGo, if_neg (by simp), lineN_at _ _ hno, take10_at, drop10_at, show dd ++ br ++ [13] ++ [10] = (dd ++ br) ++ crlf2 from by simp [crlf2], bare_end _ hend, if_neg (dd_apart br), if_pos rfl]

/-- What was put between borders. -/
theorem split_all (br behind : List UInt8) (h : BrOk br) : ∀ (ts : List (List UInt8)) (cur : Option (List UInt8)) (out : List (List UInt8)) (f : Nat), (∀ t ∈ ts, ¬ (dd ++ br) <:+: t) → (ts.flatMap (pieceT br) ++ (lastT br ++ behind)).length < f →
    splitGo br f (ts.flatMap (pieceT br) ++ (lastT br ++ behind)) cur out = some (closed cur out ++ ts)
  | [], cur, out, f, _, hf => by
    obtain ⟨f', rfl⟩ : ∃ f', f = f' + 1 := ⟨f - 1, by omega⟩
    rw [List.flatMap_nil, List.nil_append, splitM_last br behind h, List.append_nil]
  | t :: ts, cur, out, f, hno, hf => by
    obtain ⟨f', rfl⟩ : ∃ f', f = f' + 1 := ⟨f - 1, by omega⟩
    have e : (t :: ts).flatMap (pieceT br) ++ (lastT br ++ behind) = dd ++ br ++ crlf2 ++ ((t ++ crlf2) ++ (ts.flatMap (pieceT br) ++ (lastT br ++ behind))) := by
      rw [List.flatMap_cons]; simp [pieceT]
    rw [e] at hf ⊢
    rw [splitM_next br _ h]
    obtain ⟨f2, hf2, h2⟩ := split_over br (ts.flatMap (pieceT br) ++ (lastT br ++ behind)) (closed cur out) (t ++ crlf2).length (t ++ crlf2) (some []) f' (Nat.le_refl _) (.inr (by simp [crlf2])) (no_infix h t (hno t (by simp))) (by rw [List.length_append] at hf; simp only [dd, crlf2, List.length_append, List.length_cons, List.length_nil] at hf ⊢; omega)
    rw [h2, split_all br behind h ts _ _ f2 (fun x hx => hno x (by simp [hx])) hf2]
    simp only [Option.map_some, List.nil_append, closed]
    rw [strip_crlf]
    simp

theorem splitS_all (br behind : List UInt8) (h : BrOk br) (h60 : br.length ≤ 60) (ts : List (List UInt8)) (hno : ∀ t ∈ ts, ¬ (dd ++ br) <:+: t) (h4 : (ts.flatMap (pieceT br) ++ (lastT br ++ behind)).length ≤ 40000) :
    splitS (ts.flatMap (pieceT br) ++ (lastT br ++ behind)) br = (ts, 0) := by
  unfold splitS
  rw [if_neg (by omega), if_neg (by rintro (e | e); exact h.1 e; omega), split_all br behind h ts none [] _ hno (Nat.lt_succ_self _)]
  simp [closed]
/-- The same, with something ahead. -/
theorem splitS_wraps (br ahead behind : List UInt8) (h : BrOk br) (h60 : br.length ≤ 60) (ts : List (List UInt8)) (hno : ∀ t ∈ ts, ¬ (dd ++ br) <:+: t) (ha : ¬ (dd ++ br) <:+: ahead) (h4 : (ahead ++ crlf2 ++ (ts.flatMap (pieceT br) ++ (lastT br ++ behind))).length ≤ 40000) :
    splitS (ahead ++ crlf2 ++ (ts.flatMap (pieceT br) ++ (lastT br ++ behind))) br = (ts, 0) := by
  unfold splitS
  rw [if_neg (by omega), if_neg (by rintro (e | e); exact h.1 e; omega)]
  obtain ⟨f2, hf2, h2⟩ := split_over br (ts.flatMap (pieceT br) ++ (lastT br ++ behind)) [] (ahead ++ crlf2).length (ahead ++ crlf2) none _ (Nat.le_refl _) (.inr (by simp [crlf2])) (no_infix h ahead ha) (Nat.lt_succ_self _)
  rw [h2, Option.map_none, split_all br behind h ts none [] f2 hno hf2]
  simp [closed]
end Go.Proofs.YtpgnkhaanoalhaaGreatDoor

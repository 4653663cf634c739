/- Plain facts on parts: what the reference's sized says of few, and not too deep, parts; what Flat gives are the parts of the tree. No program. -/
import Derived.Test.YtehiaenicfmpbaaDoorXpartsaysupto15
import Derived.Test.YtehiaenicfmpbaaDoorXpartsaysupto1
import Derived.Lib.Case
import Derived.Test.YtehiaenicfmpbaaDoorXpartsaysupto2
import Derived.Test.YtehiaenicfmpbaaDoorXpartsaysupto3
import Derived.Deep.WholeRow
namespace Go.Proofs.YtehiaenicfmpbaaDoor

def total (f : Nat) (ks : List PT) : Nat := (ks.map fun k => (tree f k).length).sum
theorem grow_total (f : Nat) : ∀ (ks : List PT) (acc : List (PT × Option Nat)), (grow f acc ks).length = acc.length + total f ks
  | [], acc => by simp [grow_nil, total]
  | k :: ks, acc => by
    rw [grow_cons, grow_total f ks]
    simp [total]
    omega
theorem tree_total (f : Nat) (p : PT) : (tree (f + 1) p).length = 1 + total f p.kids := by rw [tree_grow, grow_total]; rfl

theorem sized_fits (f : Nat) (hf : f ≤ 3) : ∀ (ks : List PT) (a d : Nat), (∀ k ∈ ks, (sizedP f k).1 = (tree f k).length ∧ (sizedP f k).2 ≤ f) → d ≤ f → (a + total f ks ≤ 100 → ∃ D, D ≤ f ∧ sizedG f (a, d) ks = some (a + total f ks, D)) ∧ (a ≤ 100 → 100 < a + total f ks → sizedG f (a, d) ks = none)
  | [], a, d, _, hd => ⟨fun _ => ⟨d, hd, rfl⟩, fun h1 h2 => by simp [total] at h2; omega⟩
  | k :: ks, a, d, h, hd => by
    obtain ⟨h1, h2⟩ := h k (by simp)
    have ht : total f (k :: ks) = (tree f k).length + total f ks := by simp [total]
    by_cases hc : 100 < a + (sizedP f k).1 ∨ 50 < max d (sizedP f k).2
    · have hs := sizedG_stop f (a, d) k ks hc
      exact ⟨fun h3 => by rw [ht] at h3; omega, fun _ _ => hs⟩
    · have hs := sizedG_on f (a, d) k ks hc
      obtain ⟨g1, g2⟩ := sized_fits f hf ks (a + (sizedP f k).1) (max d (sizedP f k).2) (fun x hx => h x (by simp [hx])) (by omega)
      rw [hs, ht, h1]
      rw [h1] at g1 g2
      refine ⟨fun h3 => ?_, fun h3 h4 => g2 (by omega) (by omega)⟩
      obtain ⟨D, hD, e⟩ := g1 (by omega)
      exact ⟨D, hD, by rw [e, Nat.add_assoc]⟩
theorem sized_grows (f : Nat) : ∀ (ks : List PT) (a b : Nat × Nat), sizedG f a ks = some b → a.1 ≤ b.1 ∧ a.2 ≤ b.2 ∧ ∀ k ∈ ks, (sizedP f k).1 ≤ b.1 ∧ (sizedP f k).2 ≤ b.2
  | [], a, b, h => by rw [sizedG_nil] at h; cases h; exact ⟨Nat.le_refl _, Nat.le_refl _, fun k hk => by cases hk⟩
  | k :: ks, a, b, h => by
    by_cases hc : 100 < a.1 + (sizedP f k).1 ∨ 50 < max a.2 (sizedP f k).2
    · rw [sizedG_stop f a k ks hc] at h; cases h
    · rw [sizedG_on f a k ks hc] at h
      obtain ⟨h1, h2, h3⟩ := sized_grows f ks _ b h
      simp only at h1 h2
      refine ⟨by omega, by omega, fun x hx => ?_⟩
      rcases List.mem_cons.1 hx with e | e
      · subst e; exact ⟨by omega, by omega⟩
      · exact h3 x e

theorem total_mem (f : Nat) : ∀ (ks : List PT) (k : PT), k ∈ ks → (tree f k).length ≤ total f ks
  | [], k, h => by cases h
  | x :: ks, k, h => by
    have ht : total f (x :: ks) = (tree f x).length + total f ks := by simp [total]
    rw [ht]
    rcases List.mem_cons.1 h with e | e
    · subst e; omega
    · have := total_mem f ks k e; omega
/-- What sized says: they are few and not too deep just where it says so. -/
theorem sized_says : ∀ (f : Nat), f ≤ 3 → ∀ p : PT, ((lev f p = true ∧ (tree f p).length ≤ 12) → (sizedP f p).1 = (tree f p).length ∧ (sizedP f p).2 ≤ f) ∧ (¬ (lev f p = true ∧ (tree f p).length ≤ 12) → 12 < (sizedP f p).1 ∨ 3 < (sizedP f p).2)
  | 0, _, p => ⟨(fun h => absurd h.1 (by rw [lev]; decide)), fun _ => .inr (by show 3 < 99; decide)⟩
  | f + 1, hf, p => by
    have ih := sized_says f (by omega)
    rw [sizedP_succ, tree_total, lev_succ]
    by_cases hall : ∀ k ∈ p.kids, lev f k = true ∧ (tree f k).length ≤ 12
    · obtain ⟨g1, g2⟩ := sized_fits f (by omega) p.kids 1 0 (fun k hk => (ih k).1 (hall k hk)) (Nat.zero_le _)
      have hl : p.kids.all (lev f) = true := List.all_eq_true.2 fun k hk => (hall k hk).1
      refine ⟨fun h => ?_, fun h => ?_⟩
      · obtain ⟨D, hD, e⟩ := g1 (by omega)
        rw [e]
        exact ⟨rfl, by show D + 1 ≤ f + 1; omega⟩
      · have h12 : 12 < 1 + total f p.kids := by
          rcases Nat.lt_or_ge 12 (1 + total f p.kids) with h' | h'
          · exact h'
          · exact absurd ⟨hl, h'⟩ h
        rcases Nat.lt_or_ge 100 (1 + total f p.kids) with h' | h'
        · rw [g2 (by omega) h']; exact .inl (by show 12 < 100; decide)
        · obtain ⟨D, _, e⟩ := g1 h'
          rw [e]
          exact .inl h12
    · obtain ⟨k, hk, hb⟩ : ∃ k ∈ p.kids, ¬ (lev f k = true ∧ (tree f k).length ≤ 12) := by
        rcases Classical.em (∃ k ∈ p.kids, ¬ (lev f k = true ∧ (tree f k).length ≤ 12)) with h | h
        · exact h
        · exact absurd (fun k hk => Classical.not_not.1 fun hb => h ⟨k, hk, hb⟩) hall
      have hbad : ¬ (p.kids.all (lev f) = true ∧ 1 + total f p.kids ≤ 12) := fun h => hb ⟨List.all_eq_true.1 h.1 k hk, by
        have := total_mem f p.kids k hk
        omega⟩
      refine ⟨fun h => absurd h hbad, fun _ => ?_⟩
      cases hs : sizedG f (1, 0) p.kids with
      | none => exact .inl (by show 12 < 100; decide)
      | some b =>
        have := (sized_grows f p.kids (1, 0) b hs).2.2 k hk
        rcases (ih k).2 hb with h | h
        · exact .inl (by show 12 < b.1; omega)
        · exact .inr (by show 3 < b.2 + 1; omega)

theorem grow_fst (f : Nat) : ∀ (ks : List PT) (acc : List (PT × Option Nat)), (∀ k ∈ ks, (tree f k).map (·.1) = flatP f k) → (grow f acc ks).map (·.1) = acc.map (·.1) ++ ks.flatMap (flatP f)
  | [], acc, _ => by simp [grow_nil]
  | k :: ks, acc, h => by
    rw [grow_cons, grow_fst f ks _ (fun x hx => h x (by simp [hx])), List.map_append, List.map_map, List.flatMap_cons, ← h k (by simp), List.append_assoc]
    rfl
theorem tree_flat : ∀ (f : Nat) (p : PT), (tree f p).map (·.1) = flatP f p
  | 0, _ => rfl
  | f + 1, p => by rw [tree_grow, grow_fst f p.kids _ (fun k _ => tree_flat f k), flatP_succ]; rfl
end Go.Proofs.YtehiaenicfmpbaaDoor

/- Plain functions on lists of bytes: a value taken apart. No program. -/
namespace Go.Proofs.YtehiaenicfmpbaaDoor

/-- Ahead of the first d, and behind it; all, where there is none. -/
def cutP (d : UInt8) (l : List UInt8) : List UInt8 × List UInt8 × Bool := match cutB d l with | none => (l, [], false) | some x => (x.1, x.2, true)
theorem cutP_none {d : UInt8} {l : List UInt8} (h : cutB d l = none) : cutP d l = (l, [], false) := by rw [cutP, h]
theorem cutP_some {d : UInt8} {l a b : List UInt8} (h : cutB d l = some (a, b)) : cutP d l = (a, b, true) := by rw [cutP, h]
theorem cutP_length (d : UInt8) (l : List UInt8) : (cutP d l).1.length ≤ l.length ∧ (cutP d l).2.1.length ≤ l.length ∧ ((cutP d l).2.2 = true → (cutP d l).1.length + (cutP d l).2.1.length + 1 = l.length) := by
  cases h : cutB d l with
  | none => rw [cutP_none h]; simp
  | some x =>
    obtain ⟨a, b⟩ := x
    rw [cutP_some h]
    have := congrArg List.length (cutB_some d l a b h).1
    simp at this ⊢
    omega
theorem cutP_mem (d : UInt8) (l : List UInt8) (c : UInt8) : (c ∈ (cutP d l).1 → c ∈ l) ∧ (c ∈ (cutP d l).2.1 → c ∈ l) := by
  cases h : cutB d l with
  | none => rw [cutP_none h]; simp
  | some x =>
    obtain ⟨a, b⟩ := x
    rw [cutP_some h]
    have := (cutB_some d l a b h).1
    rw [this]
    simp
    constructor
    · intro h; exact .inl h
    · intro h; exact .inr (.inr h)

def small8 (l : List UInt8) : List UInt8 := Lib.toLowerA l
/-- What is set: the value, what stands behind the next ;, whether there is one, whether it is written so. -/
def setS (l : List UInt8) : List UInt8 × List UInt8 × Bool × Bool :=
  if l.head? = some 34 then
    ((cutP 34 l.tail).1, (cutP 59 (cutP 34 l.tail).2.1).2.1, (cutP 59 (cutP 34 l.tail).2.1).2.2, (cutP 34 l.tail).2.2 && (trimBy isSp (cutP 59 (cutP 34 l.tail).2.1).1).isEmpty)
  else
    (dropEnd isSp (cutP 59 l).1, (cutP 59 l).2.1, (cutP 59 l).2.2, tokenS (dropEnd isSp (cutP 59 l).1))
/-- The name that is ahead of the =. -/
def nameS (l : List UInt8) : List UInt8 := trimBy isSp (cutP 61 l).1
def restS (l : List UInt8) : List UInt8 × List UInt8 × Bool × Bool := setS ((cutP 61 l).2.1.dropWhile isSp)
def nameOk (l : List UInt8) : Bool := (cutP 61 l).2.2 && tokenS (nameS l)
def paramOk (l : List UInt8) : Bool := nameOk l && (restS l).2.2.2
def paramFld (l : List UInt8) : Fld := (small8 (nameS l), (restS l).1)

def paramsGo : Nat → List UInt8 → Bool → List Fld → Except Nat (List Fld)
  | 0, _, _, _ => .error 1
  | g + 1, r, more, fs =>
    if more = true then
      if paramOk r = true then (if 20 < fs.length + 1 then .error 2 else paramsGo g (restS r).2.1 (restS r).2.2.1 (fs ++ [paramFld r])) else .error 1
    else .ok fs
def outP (m : List UInt8) : Except Nat (List Fld) → List UInt8 × List Fld × Nat
  | .error e => ([], [], e)
  | .ok fs => (m, fs, 0)
def paramsF (s : List UInt8) : List UInt8 × List Fld × Nat :=
  if valueS s = true then outP (small8 (trimBy isSp (cutP 59 s).1)) (paramsGo (s.length + 1) (cutP 59 s).2.1 (cutP 59 s).2.2 []) else ([], [], 1)

theorem mem_dropEnd {p : UInt8 → Bool} {l : List UInt8} {c : UInt8} (h : c ∈ dropEnd p l) : c ∈ l := by
  unfold dropEnd at h
  rw [List.mem_reverse] at h
  have := (List.dropWhile_sublist p).subset h
  simpa using this
theorem mem_trimBy {p : UInt8 → Bool} {l : List UInt8} {c : UInt8} (h : c ∈ trimBy p l) : c ∈ l := mem_dropEnd ((List.dropWhile_sublist p).subset h)

theorem setS_length (l : List UInt8) : (setS l).1.length ≤ l.length ∧ (setS l).2.1.length ≤ l.length := by
  unfold setS
  split
  · have h1 := cutP_length 34 l.tail
    have h2 := cutP_length 59 (cutP 34 l.tail).2.1
    have h3 : l.tail.length ≤ l.length := by rw [List.length_tail]; omega
    simp only
    omega
  · have h1 := cutP_length 59 l
    have h2 := dropEnd_length isSp (cutP 59 l).1
    simp only
    omega
theorem restS_length (l : List UInt8) (h : nameOk l = true) : (restS l).1.length < l.length ∧ (restS l).2.1.length < l.length := by
  have h0 : (cutP 61 l).2.2 = true := by rw [nameOk, Bool.and_eq_true] at h; exact h.1
  have h1 := (cutP_length 61 l).2.2 h0
  have h2 := setS_length ((cutP 61 l).2.1.dropWhile isSp)
  have h3 := (List.dropWhile_sublist isSp (l := (cutP 61 l).2.1)).length_le
  unfold restS
  omega
end Go.Proofs.YtehiaenicfmpbaaDoor

/- strings.Trim and strings.TrimRight at a set of two or more ASCII bytes: what stands without such bytes at its ends; nothing that was there is changed. -/
namespace Go.Proofs.YtehiaenicfmpbaaDoor
open Go.RowKit

theorem strt_eq {s : ByteArray} {l : List UInt8} (h : s.data.toList = l) : Value.string s = .string ⟨l.toArray⟩ := by
  subst h
  rfl

theorem ba_tail (t : ByteArray) (n : Nat) (h : t.size = n + 1) : ∃ (c : UInt8) (t8 : ByteArray), t[n] = c ∧ t.extract 0 n = t8 ∧ t8.size = n ∧ t.data.toList = t8.data.toList ++ [c] := by
  have hl : t.data.toList.length = n + 1 := by rw [Array.length_toList]; exact h
  refine ⟨_, _, rfl, rfl, ?_, ?_⟩
  · rw [Lib.size_eq, Lib.extract_data, List.length_take]; simp; omega
  · rw [Lib.extract_data, List.drop_zero, Nat.sub_zero]
    conv => lhs; rw [← List.take_append_drop n t.data.toList]
    rw [List.drop_eq_getElem_cons (by omega), List.drop_of_length_le (by omega)]
    rfl
theorem ba_head (t : ByteArray) (n : Nat) (h : t.size = n + 1) : ∃ (c : UInt8) (t8 : ByteArray), t[0] = c ∧ t.extract 1 (n + 1) = t8 ∧ t8.size = n ∧ t.data.toList = c :: t8.data.toList := by
  have hl : t.data.toList.length = n + 1 := by rw [Array.length_toList]; exact h
  refine ⟨_, _, rfl, rfl, ?_, ?_⟩
  · rw [Lib.size_eq, Lib.extract_data, List.length_take]; simp; omega
  · rw [Lib.extract_data, List.take_of_length_le (by rw [List.length_drop]; omega)]
    conv => lhs; rw [← List.drop_zero (l := t.data.toList), List.drop_eq_getElem_cons (by omega)]
    rfl

theorem zero256 (w : World) : (zeroValue 133).run Tryd.prog w = .ok (.agg (Array.replicate 256 (.bool false))) w := by kernel_rfl

theorem in_set (g : Nat) (c : UInt8) (cc : Int) (e : cc = (c.toNat : Int)) (v : Bool) (w : World) (hc : w.cell? ⟨g, c.toNat, none⟩ = some (.bool v)) :
    Calls Tryd.prog 160 #[.pointer (some ⟨g, 0, none⟩), .int .u8 cc] w fun e w' => e = .returned (.bool v) ∧ w' = w := by
  subst e
  have := c.toNat_lt
  go_enter Tryd.func160, Tryd.ntmps160
  go_wp2
  go_ret
  exact ⟨rfl, rfl⟩

set_option maxHeartbeats 1000000 in
theorem right_set (p : UInt8 → Bool) (g : Nat) (s : ByteArray) (w : World) (hs : s.size ≤ 1000000000) (hg : ∀ c : UInt8, w.cell? ⟨g, c.toNat, none⟩ = some (.bool (p c))) :
    Calls Tryd.prog 119 #[.string s, .pointer (some ⟨g, 0, none⟩)] w fun e w' => e = .returned (.string ⟨(dropEnd p s.data.toList).toArray⟩) ∧ w' = w := by
  have HG : Hid (∀ c : UInt8, w.cell? ⟨g, c.toNat, none⟩ = some (.bool (p c))) := hg
  clear hg
  go_enter Tryd.func119, Tryd.ntmps119
  go_wp2
  go_loopw [0] (fun v wr => ∃ t : ByteArray, v = .string t ∧ t.size ≤ s.size ∧ wr = w ∧ Hid (dropEnd p t.data.toList = dropEnd p s.data.toList)) (fun v _ => strLen v)
  case atStart => exact ⟨s, rfl, Nat.le_refl _, rfl, rfl⟩
  case round =>
    obtain ⟨t, rfl, hts, rfl, HT⟩ := hrel
    rcases Nat.eq_zero_or_pos t.size with h0 | h0
    · go_wp2
      go_ret
      have e : t.data.toList = [] := List.length_eq_zero_iff.1 (by rw [← Lib.size_eq]; exact h0)
      exact ⟨congrArg Ending.returned (strt_eq (by rw [← HT.out, e]; rfl)), rfl⟩
    · obtain ⟨n, hn⟩ : ∃ n, t.size = n + 1 := ⟨t.size - 1, by omega⟩
      obtain ⟨c, t8, h1, h2, h3, h4⟩ := ba_tail t n hn
      have hcell := HG.out c
      cases hb : p c
      · have HE : Hid (dropEnd p t.data.toList = t.data.toList) := by unfold Hid; rw [h4]; exact dropEnd_no p _ _ hb
        rw [hb] at hcell
        clear h4 hb
        go_wp2_with (go_at_call 160; refine (in_set g c _ rfl false _ hcell).mono ?_; rintro e w' ⟨rfl, hw'⟩; have hw'' := hw'.symm; subst hw'')
        go_ret
        exact ⟨congrArg Ending.returned (strt_eq (by rw [← HT.out, HE.out])), rfl⟩
      · have HE : Hid (dropEnd p t8.data.toList = dropEnd p t.data.toList) := by unfold Hid; rw [h4]; exact (dropEnd_yes p _ _ hb).symm
        rw [hb] at hcell
        clear h4 hb
        go_wp2_with (go_at_call 160; refine (in_set g c _ rfl true _ hcell).mono ?_; rintro e w' ⟨rfl, hw'⟩; have hw'' := hw'.symm; subst hw'')
        go_roundw
        case rel => exact ⟨t8, rfl, by omega, trivial, HE.out.trans HT.out⟩
        case measure => simp [strLen]; omega

set_option maxHeartbeats 1000000 in
theorem left_set (p : UInt8 → Bool) (g : Nat) (s : ByteArray) (w : World) (hg : ∀ c : UInt8, w.cell? ⟨g, c.toNat, none⟩ = some (.bool (p c))) :
    Calls Tryd.prog 138 #[.string s, .pointer (some ⟨g, 0, none⟩)] w fun e w' => e = .returned (.string ⟨(s.data.toList.dropWhile p).toArray⟩) ∧ w' = w := by
  have HG : Hid (∀ c : UInt8, w.cell? ⟨g, c.toNat, none⟩ = some (.bool (p c))) := hg
  clear hg
  go_enter Tryd.func138, Tryd.ntmps138
  go_wp2
  go_loopw [0] (fun v wr => ∃ t : ByteArray, v = .string t ∧ t.size ≤ s.size ∧ wr = w ∧ Hid (t.data.toList.dropWhile p = s.data.toList.dropWhile p)) (fun v _ => strLen v)
  case atStart => exact ⟨s, rfl, Nat.le_refl _, rfl, rfl⟩
  case round =>
    obtain ⟨t, rfl, hts, rfl, HT⟩ := hrel
    rcases Nat.eq_zero_or_pos t.size with h0 | h0
    · go_wp2
      go_ret
      have e : t.data.toList = [] := List.length_eq_zero_iff.1 (by rw [← Lib.size_eq]; exact h0)
      exact ⟨congrArg Ending.returned (strt_eq (by rw [← HT.out, e]; rfl)), rfl⟩
    · obtain ⟨n, hn⟩ : ∃ n, t.size = n + 1 := ⟨t.size - 1, by omega⟩
      obtain ⟨c, t8, h1, h2, h3, h4⟩ := ba_head t n hn
      have hcell := HG.out c
      cases hb : p c
      · have HE : Hid (t.data.toList.dropWhile p = t.data.toList) := by unfold Hid; rw [h4, List.dropWhile_cons, if_neg (by simp [hb])]
        rw [hb] at hcell
        clear h4 hb
        go_wp2_with (go_at_call 160; refine (in_set g c _ rfl false _ hcell).mono ?_; rintro e w' ⟨rfl, hw'⟩; have hw'' := hw'.symm; subst hw'')
        go_ret
        exact ⟨congrArg Ending.returned (strt_eq (by rw [← HT.out, HE.out])), rfl⟩
      · have HE : Hid (t8.data.toList.dropWhile p = t.data.toList.dropWhile p) := by unfold Hid; rw [h4, List.dropWhile_cons, if_pos hb]
        rw [hb] at hcell
        clear h4 hb
        go_wp2_with (go_at_call 160; refine (in_set g c _ rfl true _ hcell).mono ?_; rintro e w' ⟨rfl, hw'⟩; have hw'' := hw'.symm; subst hw'')
        go_roundw
        case rel => exact ⟨t8, rfl, by omega, trivial, HE.out.trans HT.out⟩
        case measure => simp [strLen]; omega

set_option maxHeartbeats 2000000 in
set_option maxRecDepth 100000 in
theorem trim_set (cs : ByteArray) (s : ByteArray) (w : World) (hs : s.size ≤ 1000000000) (hc2 : 2 ≤ cs.size) (hcm : cs.size ≤ 1000) (hasc : ∀ (j : Nat) (b : UInt8), cs.data.toList[j]? = some b → b.toNat < 128) :
    Calls Tryd.prog 85 #[.string s, .string cs] w fun e w' => e = .returned (.string ⟨(trimBy cs.data.toList.contains s.data.toList).toArray⟩) ∧ Below w.heap.size w w' := by
  have hcne : cs.toList.isEmpty = false := by
    rw [ByteArray.toList_eq]
    cases h : cs.data.toList with
    | nil => have := congrArg List.length h; rw [← Lib.size_eq] at this; rw [List.length_nil] at this; omega
    | cons a b => rfl
  rcases Nat.eq_zero_or_pos s.size with h0 | h0
  · have e : s.data.toList = [] := List.length_eq_zero_iff.1 (by rw [← Lib.size_eq]; exact h0)
    obtain rfl : s = ⟨#[]⟩ := ByteArray.ext (Array.toList_inj.1 e)
    clear e h0 hs
    go_enter Tryd.func85, Tryd.ntmps85
    go_wp2
    go_ret
    exact ⟨rfl, Below.refl _ _⟩
  · have hne : s.toList.isEmpty = false := by
      rw [ByteArray.toList_eq]
      cases h : s.data.toList with
      | nil => have := congrArg List.length h; rw [← Lib.size_eq] at this; rw [List.length_nil] at this; omega
      | cons a b => rfl
    have hn1 : ((cs.size : Int) == 1) = false := by rw [beq_eq_false_iff_ne]; omega
    have HM := Tryd.strings_makeASCIISet zero256 cs w (by omega) hasc
    have HS1 : Hid ((Lib.setCells cs.data.toList).size = 256) := Lib.setCells_size _
    have HS2 : Hid (∀ c : UInt8, (Lib.setCells cs.data.toList)[c.toNat]? = some (.bool (cs.data.toList.contains c))) := fun c => Lib.setCells_at _ c
    have HS3 : Hid ((Lib.setCells cs.data.toList).all (·.oneCell') = true) := Lib.setCells_one _
    generalize Lib.setCells cs.data.toList = SA at *
    have HMM : Hid (Calls Tryd.prog 118 #[.string cs] w _) := HM
    clear HM hasc
    go_enter Tryd.func85, Tryd.ntmps85
    go_wp2_with fail
    refine HMM.out.mono ?_
    rintro e w1 ⟨rfl, rfl⟩
    clear HMM
    have hA1 := HS1.out
    have hsc : (storeCells ⟨w.heap.size + 1, 0, none⟩ SA.toList 0).run Tryd.prog ((w.alloc (.cells SA 133)).alloc (.cells Tryd.zeroCells133 133)) = .ok () ((w.alloc (.cells SA 133)).alloc (.cells SA 133)) := by
      have := run_storeCells_new (P := Tryd.prog) (w.alloc (.cells SA 133)) 133 Tryd.zeroCells133 SA (by rw [hA1]; kernel_rfl) (by rw [hA1]; kernel_rfl) HS3.out
      simpa using this
    have HC : Hid (∀ c : UInt8, ((w.alloc (.cells SA 133)).alloc (.cells SA 133)).cell? ⟨w.heap.size + 1, c.toNat, none⟩ = some (.bool (cs.data.toList.contains c))) := fun c => by
      rw [World.cell?_alloc_at _ _ _ _ (by simp)]; exact HS2.out c
    have hb2 : Below w.heap.size w ((w.alloc (.cells SA 133)).alloc (.cells SA 133)) := ((Below.refl _ _).alloc (Nat.le_refl _) _).alloc (by simp) _
    go_wp2_with fail
    clear hsc
    generalize ((w.alloc (.cells SA 133)).alloc (.cells SA 133)) = w2 at *
    refine (right_set cs.data.toList.contains (w.heap.size + 1) s w2 hs HC.out).mono ?_
    rintro e w3 ⟨rfl, hw3⟩
    have hw3' := hw3.symm
    subst hw3'
    go_wp2_with fail
    refine (left_set cs.data.toList.contains (w.heap.size + 1) ⟨(dropEnd cs.data.toList.contains s.data.toList).toArray⟩ w2 HC.out).mono ?_
    rintro e w3 ⟨rfl, hw3⟩
    have hw3' := hw3.symm
    subst hw3'
    clear HC
    go_wp2
    go_ret
    exact ⟨rfl, hb2⟩
end Go.Proofs.YtehiaenicfmpbaaDoor

/- strings.Trim of blanks (and tabs), as the plain functions say; nothing that was there is changed. -/
namespace Go.Proofs.YtehiaenicfmpbaaDoor
open Go.RowKit

theorem isSp_eq : isSp = (· == 32) := by
  funext c
  have h : isSp c = decide (c = 32) := by simp [isSp]
  rw [h]
  rfl
theorem trimSp_any (X T : ByteArray) (hT : T.data.toList = trimBy isSp X.data.toList) (w : World) (hX : X.size ≤ 1000000000) :
    Calls Tryd.prog 85 #[.string X, .string ⟨#[32]⟩] w fun e w' => e = .returned (.string T) ∧ Below w.heap.size w w' := by
  refine (Tryd.strings_Trim_one X 32 (by decide) w (by omega)).mono ?_
  rintro e w' ⟨rfl, h⟩
  refine ⟨?_, ?_⟩
  · have e1 : Lib.trimB X.data.toList 32 = T.data.toList := by rw [hT, isSp_eq]; rfl
    rw [e1]
  · rcases h with rfl | rfl
    · exact Below.refl _ _
    · exact (Below.refl _ _).drew
theorem trimBT_any (X T : ByteArray) (hT : T.data.toList = trimBy isBT X.data.toList) (w : World) (hX : X.size ≤ 1000000000) :
    Calls Tryd.prog 85 #[.string X, .string ⟨#[32, 9]⟩] w fun e w' => e = .returned (.string T) ∧ Below w.heap.size w w' := by
  refine (trim_set ⟨#[32, 9]⟩ X w hX (by decide) (by decide) (fun j b hb => ?_)).mono ?_
  · have : b ∈ [(32 : UInt8), 9] := List.mem_of_getElem? hb
    simp at this
    rcases this with rfl | rfl <;> decide
  · rintro e w' ⟨rfl, hb⟩
    refine ⟨?_, hb⟩
    have e1 : trimBy (List.contains [32, 9]) X.data.toList = T.data.toList := hT.symm
    rw [show (ByteArray.mk #[32, 9]).data.toList = [32, 9] from rfl, e1]
theorem mk_trim (p : UInt8 → Bool) (l : List UInt8) : ∃ T : ByteArray, T.data.toList = trimBy p l ∧ T.size ≤ l.length := ⟨⟨(trimBy p l).toArray⟩, rfl, by show (trimBy p l).toArray.size ≤ _; rw [List.size_toArray]; exact trimBy_length p l⟩
end Go.Proofs.YtehiaenicfmpbaaDoor

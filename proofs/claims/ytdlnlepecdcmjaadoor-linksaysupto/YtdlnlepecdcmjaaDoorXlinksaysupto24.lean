/- Plain functions on lists of bytes: addresses: how they are checked, printed, parsed, and where one leads to from another. No program. -/
import Derived.Test.YtdlnlepecdcmjaaDoorXlinksaysupto23
namespace Go.Proofs.YtdlnlepecdcmjaaDoor

/-- An address: its texts, and which of them it has. -/
structure UL where
  sch : List UInt8
  hh : Bool
  hst : List UInt8
  pth : List UInt8
  hq : Bool
  qry : List UInt8
  hf : Bool
  frg : List UInt8

def noUL : UL := ⟨[], false, [], [], false, [], false, []⟩
theorem UL.ext' {a b : UL} (h1 : a.sch = b.sch) (h2 : a.hh = b.hh) (h3 : a.hst = b.hst) (h4 : a.pth = b.pth) (h5 : a.hq = b.hq) (h6 : a.qry = b.qry) (h7 : a.hf = b.hf) (h8 : a.frg = b.frg) : a = b := by
  cases a; cases b; simp at *; exact ⟨h1, h2, h3, h4, h5, h6, h7, h8⟩

def foreignL : List UInt8 := [34, 60, 62, 92, 94, 96, 123, 124, 125]
def hostN : List UInt8 := foreignL ++ [47, 63, 35]
def pathN : List UInt8 := foreignL ++ [63, 35]
def fragN : List UInt8 := foreignL ++ [35]
def isUpB (c : UInt8) : Bool := decide (65 ≤ c.toNat) && decide (c.toNat ≤ 90)
def isLowB (c : UInt8) : Bool := decide (97 ≤ c.toNat) && decide (c.toNat ≤ 122)
def schB (c : UInt8) : Bool := isLowB c || (decide (48 ≤ c.toNat) && decide (c.toNat ≤ 57)) || decide (c = 43) || decide (c = 45) || decide (c = 46)
def lowU (c : UInt8) : UInt8 := if isUpB c = true then c + 32 else c
def smallU (l : List UInt8) : List UInt8 := l.map lowU
/-- A scheme that is told. -/
def schemeS (l : List UInt8) : Bool := (match l with | [] => false | c :: _ => isLowB c) && l.all schB
/-- At the `:` that stands ahead of any other one, and of any `/`. -/
def cutC : List UInt8 → Option (List UInt8 × List UInt8)
  | [] => none
  | c :: r => if c = 58 then some ([], r) else if c = 47 then none else (cutC r).map fun x => (c :: x.1, x.2)
def preS (l : List UInt8) : Bool := l.head? == some 47
def preSS : List UInt8 → Bool
  | a :: b :: _ => (a == 47) && (b == 47)
  | _ => false

def wrtU (u : UL) : Bool :=
  (u.sch.isEmpty || schemeS u.sch) && betw 33 126 hostN u.hst && betw 33 126 pathN u.pth && betw 33 126 fragN u.qry && betw 33 126 fragN u.frg && u.hst.all fun c => !isUpB c
def likeU (u : UL) : Bool := !u.hh && preSS u.pth
def frmU (u : UL) : Bool :=
  if (!u.hh && !u.hst.isEmpty) || (!u.hq && !u.qry.isEmpty) || (!u.hf && !u.frg.isEmpty) then false
  else if u.hh then u.pth.isEmpty || preS u.pth
  else if likeU u then false else !u.sch.isEmpty || (cutC u.pth).isNone
def opt (b : Bool) (l : List UInt8) : List UInt8 := if b then l else []
def textU (u : UL) : List UInt8 := opt (!u.sch.isEmpty) (u.sch ++ [58]) ++ (opt u.hh ([47, 47] ++ u.hst) ++ (u.pth ++ (opt u.hq (63 :: u.qry) ++ opt u.hf (35 :: u.frg))))
def longU (u : UL) : Bool := decide (120 < u.sch.length) || decide (120 < u.hst.length) || decide (120 < u.pth.length) || decide (120 < u.qry.length) || decide (120 < u.frg.length)
/-- What is wrong with an address: 0, or the error's number. -/
def checkU (u : UL) : Nat := if longU u then 2 else if wrtU u = false then 1 else if frmU u = false then 4 else if 120 < (textU u).length then 2 else 0

def cutO (d : UInt8) (l : List UInt8) : List UInt8 × List UInt8 × Bool := match cutB d l with | none => (l, [], false) | some x => (x.1, x.2, true)
/-- The host of what begins with two strokes, and the rest. -/
def cutH (l : List UInt8) : List UInt8 × List UInt8 := match cutB 47 l with | none => (l, []) | some x => (x.1, 47 :: x.2)
def hostU (sch l : List UInt8) (hq : Bool) (q : List UInt8) (hf : Bool) (f : List UInt8) : UL :=
  if preSS l then ⟨sch, true, smallU (cutH (l.drop 2)).1, (cutH (l.drop 2)).2, hq, q, hf, f⟩ else ⟨sch, false, [], l, hq, q, hf, f⟩
def checkedU (u : UL) : UL × Nat := if checkU u = 0 then (u, 0) else (noUL, checkU u)
def parseA (l : List UInt8) (hq : Bool) (q : List UInt8) (hf : Bool) (f : List UInt8) : UL × Nat :=
  match cutC l with
  | none => checkedU (hostU [] l hq q hf f)
  | some x => if schemeS (smallU x.1) = false then (noUL, 1) else checkedU (hostU (smallU x.1) x.2 hq q hf f)
/-- The address of which s is the text. -/
def parseU (s : List UInt8) : UL × Nat :=
  if 120 < s.length then (noUL, 2)
  else parseA (cutO 63 (cutO 35 s).1).1 (cutO 63 (cutO 35 s).1).2.2 (cutO 63 (cutO 35 s).1).2.1 (cutO 35 s).2.2 (cutO 35 s).2.1
def printU (u : UL) : List UInt8 × Nat := if checkU u = 0 then (textU u, 0) else ([], checkU u)

/-- The parts between strokes: the first one, and the others. -/
def splitP : List UInt8 → List UInt8 × List (List UInt8)
  | [] => ([], [])
  | c :: r => if c = 47 then ([], (splitP r).1 :: (splitP r).2) else (c :: (splitP r).1, (splitP r).2)
def partsP (l : List UInt8) : List (List UInt8) := (splitP l).1 :: (splitP l).2
def joinP : List (List UInt8) → List UInt8
  | [] => []
  | a :: t => joinG [47] a t
def isDot (s : List UInt8) : Bool := (s == [46]) || (s == [46, 46])
def backP (s : List UInt8) (left : List (List UInt8)) : List (List UInt8) := if (s == [46, 46]) && decide (1 < left.length) then left.dropLast else left
def dotsGo : List (List UInt8) → List (List UInt8) → List (List UInt8)
  | [], left => left
  | s :: r, left => if isDot s then dotsGo r (if r.isEmpty then backP s left ++ [[]] else backP s left) else dotsGo r (left ++ [s])
def undotU (p : List UInt8) : List UInt8 := joinP (dotsGo (partsP p) [])

/-- Up to the last stroke. -/
def dirP (l : List UInt8) : List UInt8 := (l.reverse.dropWhile (fun c => !(c == 47))).reverse
def compU (b u : UL) : UL :=
  if u.hh then { u with sch := b.sch }
  else if u.pth.isEmpty then (if u.hq then { u with sch := b.sch, hh := b.hh, hst := b.hst, pth := b.pth } else { u with sch := b.sch, hh := b.hh, hst := b.hst, pth := b.pth, hq := b.hq, qry := b.qry })
  else if preS u.pth then { u with sch := b.sch, hh := b.hh, hst := b.hst }
  else if b.hh && b.pth.isEmpty then { u with sch := b.sch, hh := b.hh, hst := b.hst, pth := 47 :: u.pth }
  else { u with sch := b.sch, hh := b.hh, hst := b.hst, pth := dirP b.pth ++ u.pth }
def undU (u : UL) : UL := if u.hh || preS u.pth then { u with pth := undotU u.pth } else u
def fullU (b u : UL) : UL := if u.sch.isEmpty then compU b u else u
def endU (u : UL) : UL × Nat := if likeU u then (noUL, 4) else checkedU u
/-- Where u, found at b, leads to. -/
def leadU (b u : UL) : UL × Nat :=
  if checkU b ≠ 0 then (noUL, checkU b) else if checkU u ≠ 0 then (noUL, checkU u) else if b.sch.isEmpty then (noUL, 4) else endU (undU (fullU b u))

/-! Parts, joined and parted. -/
theorem splitP_free : ∀ l : List UInt8, ∀ x ∈ partsP l, ∀ c ∈ x, c ≠ 47
  | [] => by simp [partsP, splitP]
  | c :: r => by
    have ih := splitP_free r
    intro x hx
    unfold partsP splitP at hx
    split at hx
    · simp only [List.mem_cons] at hx
      rcases hx with rfl | hx
      · simp
      · exact ih x (by simp [partsP]; exact hx)
    · rename_i hc
      simp only [List.mem_cons] at hx
      rcases hx with rfl | hx
      · intro d hd
        rcases List.mem_cons.1 hd with rfl | hd
        · exact hc
        · exact ih _ (by simp [partsP]) d hd
      · exact ih x (by simp [partsP]; exact .inr hx)
theorem joinG_cons (s : List UInt8) (c : UInt8) (a : List UInt8) (t : List (List UInt8)) : joinG s (c :: a) t = c :: joinG s a t := by cases t <;> simp [joinG]
theorem join_split : ∀ l : List UInt8, joinG [47] (splitP l).1 (splitP l).2 = l
  | [] => rfl
  | c :: r => by
    have ih := join_split r
    unfold splitP
    split
    · rename_i hc; subst hc; simp only [joinG]; rw [ih]; rfl
    · simp only; rw [joinG_cons, ih]
theorem joinP_parts (l : List UInt8) : joinP (partsP l) = l := join_split l
theorem splitP_join : ∀ (t : List (List UInt8)) (a : List UInt8), (∀ x ∈ a :: t, ∀ c ∈ x, c ≠ 47) → splitP (joinG [47] a t) = (a, t)
  | [], a, h => by
    induction a with
    | nil => rfl
    | cons c a ih =>
      rw [joinG_cons, splitP, if_neg (h (c :: a) (by simp) c (by simp)), ih (fun x hx d hd => by simp at hx; subst hx; exact h (c :: x) (by simp) d (by simp [hd]))]
  | b :: t, a, h => by
    have ih := splitP_join t b (fun x hx => h x (by simp at hx ⊢; exact .inr hx))
    induction a with
    | nil => simp only [joinG, List.nil_append, List.cons_append]; rw [splitP, if_pos rfl, ih]
    | cons c a iha =>
      rw [joinG_cons, splitP, if_neg (h (c :: a) (by simp) c (by simp)), iha (fun x hx d hd => by
        rcases List.mem_cons.1 hx with rfl | hx
        · exact h (c :: x) (by simp) d (by simp [hd])
        · exact h x (List.mem_cons_of_mem _ hx) d hd)]
theorem parts_join (xs : List (List UInt8)) (hne : xs ≠ []) (h : ∀ x ∈ xs, ∀ c ∈ x, c ≠ 47) : partsP (joinP xs) = xs := by
  cases xs with
  | nil => exact absurd rfl hne
  | cons a t => unfold partsP joinP; rw [splitP_join t a h]
/-- The library's split at a stroke. -/
theorem split_parts (l : List UInt8) : Lib.splitK [47] 0 (Lib.count l [47]) l = partsP l := by
  have h := split_join 47 [] (splitP l).2 (splitP l).1 (splitP_free l)
  rw [join_split] at h
  exact h

theorem backP_sub (s : List UInt8) (left : List (List UInt8)) : ∀ x ∈ backP s left, x ∈ left := by
  intro x hx
  unfold backP at hx
  split at hx
  · exact List.dropLast_subset left hx
  · exact hx
theorem backP_ne (s : List UInt8) (left : List (List UInt8)) (h : left ≠ []) : backP s left ≠ [] := by
  unfold backP
  split
  · rename_i h2
    simp at h2
    intro e
    have := congrArg List.length e
    simp at this
    omega
  · exact h
/-- No dots are left. -/
theorem dotsGo_free : ∀ (ps left : List (List UInt8)), (∀ x ∈ left, isDot x = false) → ∀ x ∈ dotsGo ps left, isDot x = false
  | [], left, h => by simpa [dotsGo] using h
  | s :: r, left, h => by
    rw [dotsGo]
    split
    · refine dotsGo_free r _ ?_
      intro x hx
      split at hx
      · rcases List.mem_append.1 hx with hx | hx
        · exact h x (backP_sub s left x hx)
        · simp at hx; subst hx; rfl
      · exact h x (backP_sub s left x hx)
    · rename_i hs
      refine dotsGo_free r _ ?_
      intro x hx
      rcases List.mem_append.1 hx with hx | hx
      · exact h x hx
      · simp at hx; subst hx; simpa using hs
theorem dotsGo_mem : ∀ (ps left : List (List UInt8)) (x : List UInt8), x ∈ dotsGo ps left → x ∈ left ∨ x ∈ ps ∨ x = []
  | [], left, x, h => .inl (by simpa [dotsGo] using h)
  | s :: r, left, x, h => by
    rw [dotsGo] at h
    split at h
    · rcases dotsGo_mem r _ x h with h | h | h
      · split at h
        · rcases List.mem_append.1 h with h | h
          · exact .inl (backP_sub s left x h)
          · simp at h; exact .inr (.inr h)
        · exact .inl (backP_sub s left x h)
      · exact .inr (.inl (by simp [h]))
      · exact .inr (.inr h)
    · rcases dotsGo_mem r _ x h with h | h | h
      · rcases List.mem_append.1 h with h | h
        · exact .inl h
        · simp at h; exact .inr (.inl (by simp [h]))
      · exact .inr (.inl (by simp [h]))
      · exact .inr (.inr h)
theorem dotsGo_ne : ∀ (ps left : List (List UInt8)), left ≠ [] → dotsGo ps left ≠ []
  | [], left, h => by simpa [dotsGo] using h
  | s :: r, left, h => by
    rw [dotsGo]
    split
    · refine dotsGo_ne r _ ?_
      split
      · simp
      · exact backP_ne s left h
    · exact dotsGo_ne r _ (by simp)
theorem dotsGo_none : ∀ (ps left : List (List UInt8)), (∀ x ∈ ps, isDot x = false) → dotsGo ps left = left ++ ps
  | [], left, _ => by simp [dotsGo]
  | s :: r, left, h => by
    rw [dotsGo, if_neg (by rw [h s (by simp)]; simp), dotsGo_none r _ (fun x hx => h x (by simp [hx]))]
    simp
/-- What begins with a stroke, or is empty. -/
theorem dotsGo_parts (p : List UInt8) (h : p = [] ∨ preS p = true) : dotsGo (partsP p) [] ≠ [] := by
  rcases h with rfl | h
  · simp [partsP, splitP, dotsGo, isDot]
  · cases p with
    | nil => cases h
    | cons c p =>
      have hc : c = 47 := by simpa [preS] using h
      subst hc
      unfold partsP splitP
      rw [if_pos rfl, dotsGo, if_neg (show ¬ isDot [] = true by decide)]
      exact dotsGo_ne _ _ (by simp)
theorem undot_parts (p : List UInt8) (h : p = [] ∨ preS p = true) : partsP (undotU p) = dotsGo (partsP p) [] := by
  refine parts_join _ (dotsGo_parts p h) ?_
  intro x hx
  rcases dotsGo_mem _ _ x hx with h | h | h
  · cases h
  · exact splitP_free p x h
  · subst h; simp
theorem undot_free (p : List UInt8) (h : p = [] ∨ preS p = true) : ∀ x ∈ partsP (undotU p), isDot x = false := by
  rw [undot_parts p h]
  exact dotsGo_free _ _ (by simp)
theorem undot_self (p : List UInt8) (h : ∀ x ∈ partsP p, isDot x = false) : undotU p = p := by
  unfold undotU
  rw [dotsGo_none _ _ h, List.nil_append, joinP_parts]
theorem undot_undot (p : List UInt8) (h : p = [] ∨ preS p = true) : undotU (undotU p) = undotU p := undot_self _ (undot_free p h)
end Go.Proofs.YtdlnlepecdcmjaaDoor

/- A text's first letters made small, one by one. No function of the program. -/
namespace Go.Proofs.YtdlnlepecdcmjaaDoor

/-- The first k letters small. -/
def smk (k : Nat) (l : List UInt8) : List UInt8 := smallU (l.take k) ++ l.drop k
theorem smk_length (k : Nat) (l : List UInt8) : (smk k l).length = l.length := by
  unfold smk smallU
  rw [List.length_append, List.length_map, List.length_take, List.length_drop]
  omega
theorem smk_all (l : List UInt8) : smk l.length l = smallU l := by
  unfold smk
  rw [List.take_length, List.drop_length, List.append_nil]
theorem smk_get (k : Nat) (l : List UInt8) (h : k < l.length) : (smk k l).getD k 0 = l.getD k 0 := by
  unfold smk smallU
  rw [List.getD_eq_getElem?_getD, List.getElem?_append_right (by simp; omega), List.length_map, List.length_take, Nat.min_eq_left (by omega), Nat.sub_self, List.getElem?_drop, List.getD_eq_getElem?_getD]
  rfl
theorem smk_succ (k : Nat) (l : List UInt8) (h : k < l.length) : smk (k + 1) l = (smk k l).set k (lowU (l.getD k 0)) := by
  have hl : (smallU (l.take k)).length = k := by unfold smallU; rw [List.length_map, List.length_take]; omega
  unfold smk
  rw [List.set_append_right _ _ (by omega), hl, Nat.sub_self, List.drop_eq_getElem_cons h, List.set_cons_zero]
  rw [List.take_add_one, List.getElem?_eq_getElem h]
  unfold smallU
  rw [List.map_append, List.append_assoc]
  simp [List.getD_eq_getElem?_getD, List.getElem?_eq_getElem h]
theorem set_getD (l : List UInt8) (k i : Nat) (v : UInt8) (h : k < l.length) : (l.set k v).getD i 0 = if i = k then v else l.getD i 0 := by
  rw [List.getD_eq_getElem?_getD, List.getElem?_set]
  by_cases hik : k = i
  · subst hik; simp [h]
  · rw [if_neg hik, if_neg (Ne.symm hik), List.getD_eq_getElem?_getD]
theorem set_self (l : List UInt8) (k : Nat) (h : k < l.length) : l.set k (l.getD k 0) = l := by
  rw [List.getD_eq_getElem?_getD, List.getElem?_eq_getElem h]
  simp
end Go.Proofs.YtdlnlepecdcmjaaDoor

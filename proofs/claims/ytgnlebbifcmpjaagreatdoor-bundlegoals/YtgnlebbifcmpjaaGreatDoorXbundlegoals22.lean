/- Plain functions on lists of bytes: a value taken apart. No program. -/
import Derived.Test.YtgnlebbifcmpjaaGreatDoorXbundlegoals14
import Derived.Lib.Case
import Derived.Lib.Fold
import Derived.Test.YtgnlebbifcmpjaaGreatDoorXbundlegoals15
namespace Go.Proofs.YtgnlebbifcmpjaaGreatDoor

/-- Ahead of the first d, and behind it; all, where there is none. -/
def cutP (d : UInt8) (l : List UInt8) : List UInt8 × List UInt8 × Bool := match cutB d l with | none => (l, [], false) | some x => (x.1, x.2, true)
theorem cutP_none {d : UInt8} {l : List UInt8} (h : cutB d l = none) : cutP d l = (l, [], false) := by rw [cutP, h]
theorem cutP_some {d : UInt8} {l a b : List UInt8} (h : cutB d l = some (a, b)) : cutP d l = (a, b, true) := by rw [cutP, h]
theorem cutP_length (d : UInt8) (l : List UInt8) : (cutP d l).1.length ≤ l.length ∧ (cutP d l).2.1.length ≤ l.length ∧ ((cutP d l).2.2 = true → (cutP d l).1.length + (cutP d l).2.1.length + 1 = l.length) := by
  cases h : cutB d l with
  | none => rw [cutP_none h]; simp
  | some x =>
    obtain ⟨a, b⟩ := x
    rw [cutP_some h]
    have := congrArg List.length (cutB_some d l a b h).1
    simp at this ⊢
    omega
theorem cutP_mem (d : UInt8) (l : List UInt8) (c : UInt8) : (c ∈ (cutP d l).1 → c ∈ l) ∧ (c ∈ (cutP d l).2.1 → c ∈ l) := by
  cases h : cutB d l with
  | none => rw [cutP_none h]; simp
  | some x =>
    obtain ⟨a, b⟩ := x
    rw [cutP_some h]
    have := (cutB_some d l a b h).1
    rw [this]
    simp
    constructor
    · intro h; exact .inl h
    · intro h; exact .inr (.inr h)

def small8 (l : List UInt8) : List UInt8 := Lib.toLowerA l
/-- What is set: the value, what stands behind the next ;, whether there is one, whether it is written so. -/
def setS (l : List UInt8) : List UInt8 × List UInt8 × Bool × Bool :=
  if l.head? = some 34 then
    ((cutP 34 l.tail).1, (cutP 59 (cutP 34 l.tail).2.1).2.1, (cutP 59 (cutP 34 l.tail).2.1).2.2, (cutP 34 l.tail).2.2 && (trimBy isSp (cutP 59 (cutP 34 l.tail).2.1).1).isEmpty)
  else
    (dropEnd isSp (cutP 59 l).1, (cutP 59 l).2.1, (cutP 59 l).2.2, tokenS (dropEnd isSp (cutP 59 l).1))
/-- The name that is ahead of the =. -/
def nameS (l : List UInt8) : List UInt8 := trimBy isSp (cutP 61 l).1
def restS (l : List UInt8) : List UInt8 × List UInt8 × Bool × Bool := setS ((cutP 61 l).2.1.dropWhile isSp)
def nameOk (l : List UInt8) : Bool := (cutP 61 l).2.2 && tokenS (nameS l)
def paramOk (l : List UInt8) : Bool := nameOk l && (restS l).2.2.2
def paramFld (l : List UInt8) : Fld := (small8 (nameS l), (restS l).1)

def paramsGo : Nat → List UInt8 → Bool → List Fld → Except Nat (List Fld)
  | 0, _, _, _ => .error 1
  | g + 1, r, more, fs =>
    if more = true then
      if paramOk r = true then (if 20 < fs.length + 1 then .error 2 else paramsGo g (restS r).2.1 (restS r).2.2.1 (fs ++ [paramFld r])) else .error 1
    else .ok fs
def outP (m : List UInt8) : Except Nat (List Fld) → List UInt8 × List Fld × Nat
  | .error e => ([], [], e)
  | .ok fs => (m, fs, 0)
def paramsF (s : List UInt8) : List UInt8 × List Fld × Nat :=
  if valueS s = true then outP (small8 (trimBy isSp (cutP 59 s).1)) (paramsGo (s.length + 1) (cutP 59 s).2.1 (cutP 59 s).2.2 []) else ([], [], 1)

theorem mem_dropEnd {p : UInt8 → Bool} {l : List UInt8} {c : UInt8} (h : c ∈ dropEnd p l) : c ∈ l := by
  unfold dropEnd at h
  rw [List.mem_reverse] at h
  have := (List.dropWhile_sublist p).subset h
  simpa using this
theorem mem_trimBy {p : UInt8 → Bool} {l : List UInt8} {c : UInt8} (h : c ∈ trimBy p l) : c ∈ l := mem_dropEnd ((List.dropWhile_sublist p).subset h)

theorem setS_length (l : List UInt8) : (setS l).1.length ≤ l.length ∧ (setS l).2.1.length ≤ l.length := by
  unfold setS
  split
  · have h1 := cutP_length 34 l.tail
    have h2 := cutP_length 59 (cutP 34 l.tail).2.1
    have h3 : l.tail.length ≤ l.length := by rw [List.length_tail]; omega
    simp only
    omega
  · have h1 := cutP_length 59 l
    have h2 := dropEnd_length isSp (cutP 59 l).1
    simp only
    omega
theorem restS_length (l : List UInt8) (h : nameOk l = true) : (restS l).1.length < l.length ∧ (restS l).2.1.length < l.length := by
  have h0 : (cutP 61 l).2.2 = true := by rw [nameOk, Bool.and_eq_true] at h; exact h.1
  have h1 := (cutP_length 61 l).2.2 h0
  have h2 := setS_length ((cutP 61 l).2.1.dropWhile isSp)
  have h3 := (List.dropWhile_sublist isSp (l := (cutP 61 l).2.1)).length_le
  unfold restS
  omega
end Go.Proofs.YtgnlebbifcmpjaaGreatDoor

/- Plain facts on bytes: texts that are the same but for large and small letters. No program. -/
namespace Go.Proofs.YtgnlebbifcmpjaaGreatDoor

theorem lower_num8 (c : UInt8) : (Lib.lowerB c).toNat = if 65 ≤ c.toNat ∧ c.toNat ≤ 90 then c.toNat + 32 else c.toNat := by
  have : ∀ n : Fin 256, (Lib.lowerB (UInt8.ofNat n.val)).toNat = if 65 ≤ n.val ∧ n.val ≤ 90 then n.val + 32 else n.val := by decide +kernel
  have h := this ⟨c.toNat, c.toNat_lt⟩
  rwa [show UInt8.ofNat c.toNat = c from UInt8.ofNat_toNat] at h
theorem low_up (c : UInt8) : Lib.lowerB (Lib.upperB c) = Lib.lowerB c := by
  have : ∀ n : Fin 256, Lib.lowerB (Lib.upperB (UInt8.ofNat n.val)) = Lib.lowerB (UInt8.ofNat n.val) := by decide +kernel
  have h := this ⟨c.toNat, c.toNat_lt⟩
  rwa [show UInt8.ofNat c.toNat = c from UInt8.ofNat_toNat] at h
theorem low_low (c : UInt8) : Lib.lowerB (Lib.lowerB c) = Lib.lowerB c := by
  have : ∀ n : Fin 256, Lib.lowerB (Lib.lowerB (UInt8.ofNat n.val)) = Lib.lowerB (UInt8.ofNat n.val) := by decide +kernel
  have h := this ⟨c.toNat, c.toNat_lt⟩
  rwa [show UInt8.ofNat c.toNat = c from UInt8.ofNat_toNat] at h
theorem ascii_up (c : UInt8) (h : c.toNat < 128) : (Lib.upperB c).toNat < 128 := by
  have : ∀ n : Fin 256, n.val < 128 → (Lib.upperB (UInt8.ofNat n.val)).toNat < 128 := by decide +kernel
  have h := this ⟨c.toNat, c.toNat_lt⟩ h
  rwa [show UInt8.ofNat c.toNat = c from UInt8.ofNat_toNat] at h
theorem ascii_low (c : UInt8) (h : c.toNat < 128) : (Lib.lowerB c).toNat < 128 := by
  rw [lower_num8]; split <;> omega

theorem foldEq_low (x y : UInt8) : Lib.foldEq x y = decide (Lib.lowerB x = Lib.lowerB y) := by
  have hx := lower_num8 x
  have hy := lower_num8 y
  unfold Lib.foldEq
  rw [Bool.eq_iff_iff, decide_eq_true_iff, decide_eq_true_iff]
  constructor
  · intro h
    apply UInt8.toNat_inj.1
    rw [hx, hy]
    split <;> split <;> omega
  · intro h
    have h' := congrArg UInt8.toNat h
    rw [hx, hy] at h'
    split at h' <;> split at h' <;> omega
theorem fold_low : ∀ s t : List UInt8, Lib.equalFold s t = decide (s.map Lib.lowerB = t.map Lib.lowerB)
  | [], [] => rfl
  | [], y :: t => by simp [Lib.equalFold]
  | x :: s, [] => by simp [Lib.equalFold]
  | x :: s, y :: t => by
    rw [Lib.equalFold, fold_low s t, foldEq_low]
    simp [Bool.decide_and]

theorem map_up (s : List UInt8) : (Lib.toUpperA s).map Lib.lowerB = s.map Lib.lowerB := by
  unfold Lib.toUpperA; rw [List.map_map]; congr 1; funext c; exact low_up c
theorem map_low (s : List UInt8) : (Lib.toLowerA s).map Lib.lowerB = s.map Lib.lowerB := by
  unfold Lib.toLowerA; rw [List.map_map]; congr 1; funext c; exact low_low c
/-- Asked for in large letters, in small letters, it is the same. -/
theorem fold_up (s t : List UInt8) : Lib.equalFold s (Lib.toUpperA t) = Lib.equalFold s t := by rw [fold_low, fold_low, map_up]
theorem fold_down (s t : List UInt8) : Lib.equalFold s (Lib.toLowerA t) = Lib.equalFold s t := by rw [fold_low, fold_low, map_low]
theorem fold_self (s : List UInt8) : Lib.equalFold s s = true := by rw [fold_low]; simp
theorem ascii_upA (s : List UInt8) (h : ∀ c ∈ s, c.toNat < 128) : ∀ c ∈ Lib.toUpperA s, c.toNat < 128 := by
  intro c hc
  obtain ⟨d, hd, rfl⟩ := List.mem_map.1 hc
  exact ascii_up d (h d hd)
theorem ascii_lowA (s : List UInt8) (h : ∀ c ∈ s, c.toNat < 128) : ∀ c ∈ Lib.toLowerA s, c.toNat < 128 := by
  intro c hc
  obtain ⟨d, hd, rfl⟩ := List.mem_map.1 hc
  exact ascii_low d (h d hd)
end Go.Proofs.YtgnlebbifcmpjaaGreatDoor

/- Plain facts of addresses: what is led to has a scheme, no dots, and leads to itself; what is printed is read; what is read is printed but for large letters. No program. -/
namespace Go.Proofs.YtgnlebbifcmpjaaGreatDoor

theorem checkU_zero {u : UL} (h : checkU u = 0) : longU u = false ∧ wrtU u = true ∧ frmU u = true ∧ (textU u).length ≤ 120 := by
  unfold checkU at h
  split at h
  · cases h
  · split at h
    · cases h
    · split at h
      · cases h
      · split at h
        · cases h
        · rename_i h1 h2 h3 h4
          exact ⟨by simpa using h1, by simpa using h2, by simpa using h3, by omega⟩
theorem checkU_of {u : UL} (h1 : longU u = false) (h2 : wrtU u = true) (h3 : frmU u = true) (h4 : (textU u).length ≤ 120) : checkU u = 0 := by
  unfold checkU
  rw [h1, h2, h3, if_neg (by simp), if_neg (by simp), if_neg (by simp), if_neg (by omega)]
theorem longU_false {u : UL} (h : longU u = false) : u.sch.length ≤ 120 ∧ u.hst.length ≤ 120 ∧ u.pth.length ≤ 120 ∧ u.qry.length ≤ 120 ∧ u.frg.length ≤ 120 := by
  unfold longU at h
  simp at h
  obtain ⟨⟨⟨⟨h1, h2⟩, h3⟩, h4⟩, h5⟩ := h
  exact ⟨h1, h2, h3, h4, h5⟩
theorem wrtU_true {u : UL} (h : wrtU u = true) : (u.sch = [] ∨ schemeS u.sch = true) ∧ betw 33 126 hostN u.hst = true ∧ betw 33 126 pathN u.pth = true ∧ betw 33 126 fragN u.qry = true ∧ betw 33 126 fragN u.frg = true ∧ ∀ c ∈ u.hst, isUpB c = false := by
  unfold wrtU at h
  simp only [Bool.and_eq_true, Bool.or_eq_true, List.isEmpty_iff, List.all_eq_true, Bool.not_eq_true'] at h
  obtain ⟨⟨⟨⟨⟨h1, h2⟩, h3⟩, h4⟩, h5⟩, h6⟩ := h
  exact ⟨h1, h2, h3, h4, h5, h6⟩
theorem frmU_true {u : UL} (h : frmU u = true) : (u.hh = false → u.hst = []) ∧ (u.hq = false → u.qry = []) ∧ (u.hf = false → u.frg = []) ∧ (u.hh = true → u.pth = [] ∨ preS u.pth = true) ∧ (u.hh = false → preSS u.pth = false ∧ (u.sch = [] → cutC u.pth = none)) := by
  unfold frmU at h
  split at h
  · cases h
  · rename_i h1
    simp only [Bool.or_eq_true, Bool.and_eq_true, Bool.not_eq_true', List.isEmpty_eq_false_iff, not_or, not_and, Decidable.not_not] at h1
    obtain ⟨⟨a1, a2⟩, a3⟩ := h1
    refine ⟨fun e => a1 e, fun e => a2 e, fun e => a3 e, fun e => ?_, fun e => ?_⟩
    · rw [if_pos e] at h
      simpa using h
    · rw [if_neg (by rw [e]; simp)] at h
      split at h
      · cases h
      · rename_i h2
        unfold likeU at h2
        rw [e] at h2
        refine ⟨by simpa using h2, fun es => ?_⟩
        rw [es] at h
        simpa using h
theorem frmU_of {u : UL} (h1 : u.hh = false → u.hst = []) (h2 : u.hq = false → u.qry = []) (h3 : u.hf = false → u.frg = []) (h4 : u.hh = true → u.pth = [] ∨ preS u.pth = true) (h5 : u.hh = false → preSS u.pth = false ∧ (u.sch = [] → cutC u.pth = none)) : frmU u = true := by
  unfold frmU
  rw [if_neg (by
    simp only [Bool.or_eq_true, Bool.and_eq_true, Bool.not_eq_true', List.isEmpty_eq_false_iff, not_or, not_and, Decidable.not_not]
    exact ⟨⟨h1, h2⟩, h3⟩)]
  cases e : u.hh with
  | true => rw [if_pos rfl]; simpa using h4 e
  | false =>
    obtain ⟨a, b⟩ := h5 e
    rw [if_neg (by simp), if_neg (by unfold likeU; rw [a]; simp)]
    cases es : u.sch with
    | nil => rw [b es]; rfl
    | cons c r => rfl

theorem lead_out {b u : UL} (h : (leadU b u).2 = 0) : checkU b = 0 ∧ checkU u = 0 ∧ b.sch.isEmpty = false ∧ likeU (undU (fullU b u)) = false ∧ checkU (undU (fullU b u)) = 0 ∧ leadU b u = (undU (fullU b u), 0) := by
  unfold leadU at h ⊢
  split at h
  · exact absurd h (by assumption)
  · split at h
    · exact absurd h (by assumption)
    · split at h
      · cases h
      · unfold endU at h ⊢
        split at h
        · cases h
        · unfold checkedU at h ⊢
          split at h
          · rename_i h1 h2 h3 h4 h5
            have h1' : checkU b = 0 := by omega
            have h2' : checkU u = 0 := by omega
            have h4' : likeU (undU (fullU b u)) = false := by simpa using h4
            refine ⟨h1', h2', by simpa using h3, h4', h5, ?_⟩
            rw [if_neg h1, if_neg h2, if_neg h3, if_neg h4, if_pos h5]
          · exact absurd h (by assumption)
theorem lead_in {b u x : UL} (h1 : checkU b = 0) (h2 : checkU u = 0) (h3 : b.sch.isEmpty = false) (h4 : likeU x = false) (h5 : checkU x = 0) (hx : undU (fullU b u) = x) : leadU b u = (x, 0) := by
  unfold leadU
  rw [if_neg (by simpa using h1), if_neg (by simpa using h2), if_neg (by rw [h3]; simp), hx]
  unfold endU
  rw [if_neg (by rw [h4]; simp)]
  unfold checkedU
  rw [if_pos h5]

theorem full_same (b c u : UL) (h1 : c.sch = b.sch) (h2 : c.hh = b.hh) (h3 : c.hst = b.hst) (h : u.hh = true ∨ preS u.pth = true ∨ u.sch ≠ []) : fullU c u = fullU b u := by
  unfold fullU
  split
  · rename_i hs
    unfold compU
    rcases h with h | h | h
    · rw [if_pos h, if_pos h, h1]
    · have hp : u.pth.isEmpty = false := by cases hu : u.pth with
        | nil => rw [hu] at h; cases h
        | cons a l => rfl
      rw [h1, h2, h3]
      split
      · rfl
      · simp only [hp, Bool.false_eq_true, if_false]
    · exact absurd (by simpa using hs) h
  · rfl
/-- URLPaths. -/
theorem paths_plain (b c u : UL) (h1 : c.sch = b.sch) (h2 : c.hh = b.hh) (h3 : c.hst = b.hst) (e : (leadU b u).2 = 0) (f : (leadU c u).2 = 0) (h : u.hh = true ∨ preS u.pth = true ∨ u.sch ≠ []) : (leadU b u).1 = (leadU c u).1 := by
  rw [(lead_out e).2.2.2.2.2, (lead_out f).2.2.2.2.2, full_same b c u h1 h2 h3 h]

theorem comp_keeps (b u : UL) : (compU b u).sch = b.sch ∧ (compU b u).hf = u.hf ∧ (compU b u).frg = u.frg := by
  unfold compU
  repeat' split
  all_goals exact ⟨rfl, rfl, rfl⟩
theorem und_keeps (u : UL) : (undU u).sch = u.sch ∧ (undU u).hf = u.hf ∧ (undU u).frg = u.frg ∧ (undU u).hh = u.hh ∧ (undU u).hst = u.hst ∧ (undU u).hq = u.hq ∧ (undU u).qry = u.qry := by
  unfold undU
  split
  all_goals exact ⟨rfl, rfl, rfl, rfl, rfl, rfl, rfl⟩
theorem full_keeps (b u : UL) (hb : b.sch.isEmpty = false) : (fullU b u).sch.isEmpty = false ∧ (fullU b u).hf = u.hf ∧ (fullU b u).frg = u.frg := by
  unfold fullU
  split
  · obtain ⟨a, b', c⟩ := comp_keeps b u
    rw [a, b', c]
    exact ⟨hb, rfl, rfl⟩
  · rename_i h; exact ⟨by simpa using h, rfl, rfl⟩

theorem dirP_append (l : List UInt8) : ∃ m, l = dirP l ++ m := by
  refine ⟨(l.reverse.takeWhile (fun c => !(c == 47))).reverse, ?_⟩
  unfold dirP
  rw [← List.reverse_append, List.takeWhile_append_dropWhile, List.reverse_reverse]
theorem preS_iff (l : List UInt8) : preS l = true ↔ ∃ r, l = 47 :: r := by
  cases l with
  | nil => simp [preS]
  | cons a l => simp [preS]
/-- What begins with a stroke has one in its directory. -/
theorem dirP_pre (l : List UInt8) (h : preS l = true) : preS (dirP l) = true := by
  obtain ⟨r, rfl⟩ := (preS_iff l).1 h
  unfold dirP
  rw [List.reverse_cons, List.dropWhile_append]
  split
  · rfl
  · rw [List.reverse_append]; rfl
theorem preS_append (a b : List UInt8) (h : preS a = true) : preS (a ++ b) = true := by
  obtain ⟨r, rfl⟩ := (preS_iff a).1 h
  rfl

/-- Of a checked one that has a host, the path is empty or begins with a stroke; also behind completing. -/
theorem full_path (b u : UL) (hb : checkU b = 0) (hu : checkU u = 0) (h : (fullU b u).hh = true ∨ preS (fullU b u).pth = true) : (fullU b u).pth = [] ∨ preS (fullU b u).pth = true := by
  obtain ⟨_, _, fb, _⟩ := checkU_zero hb
  obtain ⟨_, _, fu, _⟩ := checkU_zero hu
  obtain ⟨_, _, _, b4, b5⟩ := frmU_true fb
  obtain ⟨_, _, _, u4, u5⟩ := frmU_true fu
  refine h.elim ?_ .inr
  clear h
  unfold fullU
  split
  · unfold compU
    split
    · intro h; exact u4 (by assumption)
    · split
      · split
        · intro h; exact b4 h
        · intro h; exact b4 h
      · split
        · intro h; right; assumption
        · split
          · intro h; right; rfl
          · rename_i h1 h2 h3 h4
            intro h
            right
            have hh : b.hh = true := h
            rw [hh] at h4
            rcases b4 hh with e | e
            · rw [e] at h4; exact absurd rfl h4
            · exact preS_append _ _ (dirP_pre _ e)
  · intro h; exact u4 h

/-- What is led to has no dots to go. -/
theorem lead_dots {b u : UL} (h : (leadU b u).2 = 0) (hp : (leadU b u).1.hh = true ∨ preS (leadU b u).1.pth = true) : ∀ x ∈ partsP (leadU b u).1.pth, isDot x = false := by
  obtain ⟨h1, h2, h3, h4, h5, h6⟩ := lead_out h
  rw [h6] at hp ⊢
  simp only at hp ⊢
  have hk := und_keeps (fullU b u)
  by_cases hc : ((fullU b u).hh || preS (fullU b u).pth) = true
  · have := full_path b u h1 h2 (by simpa using hc)
    unfold undU
    rw [if_pos hc]
    exact undot_free _ this
  · have e : undU (fullU b u) = fullU b u := by unfold undU; rw [if_neg hc]
    rw [e] at hp
    exact absurd (by simpa using hp) hc
theorem und_self {x : UL} (h : x.hh = true ∨ preS x.pth = true → ∀ s ∈ partsP x.pth, isDot s = false) : undU x = x := by
  unfold undU
  split
  · rename_i hc
    rw [undot_self _ (h (by simpa using hc))]
  · rfl
theorem lead_self {b u c : UL} (h : (leadU b u).2 = 0) (hc : checkU c = 0) (hs : c.sch.isEmpty = false) : leadU c (leadU b u).1 = ((leadU b u).1, 0) := by
  obtain ⟨h1, h2, h3, h4, h5, h6⟩ := lead_out h
  have hd := lead_dots h
  rw [h6] at hd ⊢
  simp only at hd ⊢
  have hk := und_keeps (fullU b u)
  have hf := full_keeps b u h3
  refine lead_in hc h5 hs h4 h5 ?_
  have e : fullU c (undU (fullU b u)) = undU (fullU b u) := by
    unfold fullU
    rw [if_neg]
    show ¬ (undU (fullU b u)).sch.isEmpty = true
    rw [hk.1, hf.1]; simp
  rw [e]
  exact und_self hd

def noFrag (x : UL) : UL := { x with hf := false, frg := [] }
theorem check_noFrag {x : UL} (h : checkU x = 0) : checkU (noFrag x) = 0 := by
  obtain ⟨h1, h2, h3, h4⟩ := checkU_zero h
  obtain ⟨a1, a2, a3, a4, a5⟩ := longU_false h1
  obtain ⟨b1, b2, b3, b4, b5, b6⟩ := wrtU_true h2
  obtain ⟨c1, c2, c3, c4, c5⟩ := frmU_true h3
  refine checkU_of ?_ ?_ (frmU_of c1 c2 (fun _ => rfl) c4 c5) ?_
  · unfold longU noFrag; simp; omega
  · unfold wrtU noFrag
    simp only [Bool.and_eq_true, Bool.or_eq_true, List.isEmpty_iff, List.all_eq_true, Bool.not_eq_true']
    exact ⟨⟨⟨⟨⟨b1, b2⟩, b3⟩, b4⟩, rfl⟩, b6⟩
  · refine Nat.le_trans ?_ h4
    unfold textU noFrag opt
    simp only [List.length_append]
    simp
theorem lead_here {b u : UL} (h : (leadU b u).2 = 0) : leadU (leadU b u).1 noUL = (noFrag (leadU b u).1, 0) := by
  obtain ⟨h1, h2, h3, h4, h5, h6⟩ := lead_out h
  have hd := lead_dots h
  rw [h6] at hd ⊢
  simp only at hd ⊢
  have hk := und_keeps (fullU b u)
  have hf := full_keeps b u h3
  have hs : (undU (fullU b u)).sch.isEmpty = false := by rw [hk.1]; exact hf.1
  generalize undU (fullU b u) = x at *
  refine lead_in h5 (by rfl) hs h4 (check_noFrag h5) ?_
  have e : fullU x noUL = noFrag x := rfl
  rw [e]
  exact und_self hd
theorem lead_keeps {b u : UL} (h : (leadU b u).2 = 0) : checkU (leadU b u).1 = 0 ∧ (leadU b u).1.sch.isEmpty = false ∧ (leadU b u).1.hf = u.hf ∧ (leadU b u).1.frg = u.frg := by
  obtain ⟨h1, h2, h3, h4, h5, h6⟩ := lead_out h
  have hk := und_keeps (fullU b u)
  have hf := full_keeps b u h3
  rw [h6]
  simp only
  refine ⟨h5, ?_, ?_, ?_⟩
  · rw [hk.1]; exact hf.1
  · rw [hk.2.1]; exact hf.2.1
  · rw [hk.2.2.1]; exact hf.2.2
end Go.Proofs.YtgnlebbifcmpjaaGreatDoor

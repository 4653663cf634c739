/- Plain facts: a page falls into pieces, and texts can be exchanged where its links are. No program. -/
import Derived.Test.YtdlnlepecdcmjaaDoorXlinksaysupto2
namespace Go.Proofs.YtdlnlepecdcmjaaDoor

/-- A piece of a page: is it a link's value? -/
abbrev SG := Bool × List UInt8
def flatS : List SG → List UInt8
  | [] => []
  | x :: ss => x.2 ++ flatS ss
def leftsS : List SG → Nat → List LK
  | [], _ => []
  | x :: ss, k => if x.1 = true then ((x.2 ++ flatS ss).length + k, x.2) :: leftsS ss k else leftsS ss k
def okR (r r' : List UInt8) : Prop := r' = r ∨ (r' ≠ [] ∧ plainT r' = true)
/-- The same pieces, but for what stands in the links' places. -/
def Rep : List SG → List SG → Prop
  | [], [] => True
  | x :: ss, y :: ts => x.1 = y.1 ∧ (x.1 = true → okR x.2 y.2) ∧ (x.1 = false → y.2 = x.2) ∧ Rep ss ts
  | _, _ => False
theorem Rep.refl : ∀ (ss : List SG), Rep ss ss
  | [] => trivial
  | _ :: ss => ⟨rfl, fun _ => .inl rfl, fun _ => rfl, Rep.refl ss⟩
theorem Rep.lit {t : List UInt8} {ss ts : List SG} (h : Rep ((false, t) :: ss) ts) : ∃ us, ts = (false, t) :: us ∧ Rep ss us := by
  cases ts with
  | nil => exact h.elim
  | cons y us =>
    obtain ⟨h1, _, h3, h4⟩ := h
    obtain ⟨b, u⟩ := y
    have h1' : false = b := h1
    have h3' : u = t := h3 rfl
    subst h1'; subst h3'
    exact ⟨us, rfl, h4⟩
theorem Rep.val {t : List UInt8} {ss ts : List SG} (h : Rep ((true, t) :: ss) ts) : ∃ u us, ts = (true, u) :: us ∧ okR t u ∧ Rep ss us := by
  cases ts with
  | nil => exact h.elim
  | cons y us =>
    obtain ⟨h1, h2, _, h4⟩ := h
    obtain ⟨b, u⟩ := y
    have h1' : true = b := h1
    have h2' : okR t u := h2 rfl
    subst h1'
    exact ⟨u, us, rfl, h2', h4⟩
theorem Rep.nil {ts : List SG} (h : Rep [] ts) : ts = [] := by
  cases ts with
  | nil => rfl
  | cons y us => exact h.elim
theorem Rep.app : ∀ {a b cs : List SG}, Rep (a ++ b) cs → ∃ a' b', cs = a' ++ b' ∧ Rep a a' ∧ Rep b b'
  | [], b, cs, h => ⟨[], cs, rfl, trivial, h⟩
  | x :: a, b, [], h => h.elim
  | x :: a, b, y :: cs, h => by
    obtain ⟨h1, h2, h3, h4⟩ := h
    obtain ⟨a', b', e, h5, h6⟩ := Rep.app h4
    exact ⟨y :: a', b', by rw [e]; rfl, ⟨h1, h2, h3, h5⟩, h6⟩
theorem flat_app : ∀ (a b : List SG), flatS (a ++ b) = flatS a ++ flatS b
  | [], b => rfl
  | x :: a, b => by simp [flatS, flat_app a b]
theorem lefts_app : ∀ (a b : List SG) (k : Nat), leftsS (a ++ b) k = leftsS a ((flatS b).length + k) ++ leftsS b k
  | [], b, k => rfl
  | x :: a, b, k => by
    rw [List.cons_append, leftsS, leftsS, lefts_app a b k]
    split
    · rw [flat_app]; simp; omega
    · rfl

def Stops (p : UInt8 → Bool) (X : List UInt8) : Prop := ∀ y, X.head? = some y → p y = false
theorem tw_all (p : UInt8 → Bool) : ∀ (s : List UInt8), ∀ c ∈ s.takeWhile p, p c = true
  | [], _, h => by simp at h
  | x :: s, c, h => by
    rw [List.takeWhile_cons] at h
    split at h
    · rcases List.mem_cons.1 h with rfl | h
      · assumption
      · exact tw_all p s c h
    · simp at h
theorem tw_dw (p : UInt8 → Bool) (s : List UInt8) : s.takeWhile p ++ s.dropWhile p = s := List.takeWhile_append_dropWhile
theorem dw_stops (p : UInt8 → Bool) : ∀ (s : List UInt8), Stops p (s.dropWhile p)
  | [], y, h => by simp at h
  | x :: s, y, h => by
    rw [List.dropWhile_cons] at h
    split at h
    · exact dw_stops p s y h
    · rename_i hx; simp at h; subst h; simpa using hx
theorem tw_app (p : UInt8 → Bool) : ∀ (a X : List UInt8), (∀ c ∈ a, p c = true) → Stops p X → (a ++ X).takeWhile p = a ∧ (a ++ X).dropWhile p = X
  | [], [], _, _ => ⟨rfl, rfl⟩
  | [], y :: X, _, h => by
    have := h y rfl
    simp [this]
  | x :: a, X, ha, h => by
    have h1 := ha x (by simp)
    obtain ⟨h2, h3⟩ := tw_app p a X (fun c hc => ha c (by simp [hc])) h
    simp [h1, h2, h3]
theorem stops_head {p : UInt8 → Bool} {X Y : List UInt8} (h : Stops p X) (e : Y.head? = X.head?) : Stops p Y := fun y hy => h y (e ▸ hy)

theorem sp_facts {c : UInt8} (h : spB c = true) : inAttr c = false ∧ inName c = false ∧ inBare c = false ∧ inGap c = true := by
  simp [inAttr, inName, inBare, inGap, h]
theorem okT_facts {c : UInt8} (h : okT c = true) : inBare c = true ∧ spB c = false ∧ qB c = false ∧ c ≠ 38 := by
  have hc : ∀ x : UInt8, c = x → okT x = true := fun x e => e ▸ h
  have n : ∀ x : UInt8, okT x = false → c ≠ x := fun x hx e => by have := hc x e; rw [hx] at this; cases this
  have a1 := n 32 (by decide); have a2 := n 9 (by decide); have a3 := n 13 (by decide); have a4 := n 10 (by decide); have a5 := n 12 (by decide)
  have b1 := n 62 (by decide); have b2 := n 34 (by decide); have b3 := n 39 (by decide); have b4 := n 38 (by decide)
  have hs : spB c = false := by simp [spB, a1, a2, a3, a4, a5]
  exact ⟨by simp [inBare, hs, b1], hs, by simp [qB, b2, b3], b4⟩
theorem okT_quote {c q : UInt8} (h : okT c = true) (hq : qB q = true) : notQ q c = true := by
  have h1 := (okT_facts h).2.2.1
  simp only [notQ, bne_iff_ne]
  rintro rfl
  rw [hq] at h1
  cases h1

/-- An attribute without a value, or with one that can be exchanged. -/
def NoVal (s r : List UInt8) : Prop := ∃ c pre, s = (c :: pre) ++ r ∧ ∀ X : List UInt8, X.head? = r.head? → nameP ((c :: pre) ++ X) = nameP s ∧ attrP ((c :: pre) ++ X) = (none, X)
def HasVal (s r : List UInt8) (v : LK) : Prop := ∃ c pre raw post, s = (c :: pre) ++ (raw ++ (post ++ r)) ∧ v = ((raw ++ (post ++ r)).length, raw) ∧
  ∀ raw' X : List UInt8, okR raw raw' → X.head? = r.head? → nameP ((c :: pre) ++ (raw' ++ (post ++ X))) = nameP s ∧ attrP ((c :: pre) ++ (raw' ++ (post ++ X))) = (some ((raw' ++ (post ++ X)).length, raw'), X)

theorem name_cons (c : UInt8) (t : List UInt8) : nameP (c :: t) = c :: t.takeWhile inAttr := rfl
theorem attr_cons (c : UInt8) (t : List UInt8) : attrP (c :: t) = behP ((t.dropWhile inAttr).dropWhile spB) := rfl
theorem attr_at (c : UInt8) (a sp X : List UInt8) (ha : ∀ x ∈ a, inAttr x = true) (hsp : ∀ x ∈ sp, spB x = true) (h1 : Stops inAttr X) (h2 : Stops spB X) :
    nameP ((c :: (a ++ sp)) ++ X) = c :: a ∧ attrP ((c :: (a ++ sp)) ++ X) = behP X := by
  have hst : Stops inAttr (sp ++ X) := by
    cases sp with
    | nil => exact h1
    | cons x sp => intro y hy; simp at hy; subst hy; exact (sp_facts (hsp x (by simp))).1
  obtain ⟨e1, e2⟩ := tw_app inAttr a (sp ++ X) ha hst
  obtain ⟨e3, e4⟩ := tw_app spB sp X hsp h2
  rw [List.cons_append, name_cons, attr_cons, List.append_assoc, e1, e2, e4]
  exact ⟨rfl, rfl⟩
theorem stops_61 {X : List UInt8} : Stops inAttr (61 :: X) ∧ Stops spB (61 :: X) := ⟨fun y h => by simp at h; subst h; decide, fun y h => by simp at h; subst h; decide⟩
theorem beh_val (sp2 Y : List UInt8) (hsp : ∀ x ∈ sp2, spB x = true) (h : Stops spB Y) : behP (61 :: (sp2 ++ Y)) = (some ((valP Y).1.length, (valP Y).2.1), (valP Y).2.2) := by
  obtain ⟨_, e⟩ := tw_app spB sp2 Y hsp h
  simp only [behP, e]
  rfl

/-- What an attribute is, where something is left behind it. -/
theorem attr_seg (c : UInt8) (t : List UInt8) (v : Option LK) (r : List UInt8) (h : attrP (c :: t) = (v, r)) (hr : r ≠ []) :
    (v = none ∧ NoVal (c :: t) r) ∨ ∃ x, v = some x ∧ HasVal (c :: t) r x := by
  have es := tw_dw inAttr t
  have ha := tw_all inAttr t
  have hst := dw_stops inAttr t
  rw [attr_cons] at h
  generalize t.takeWhile inAttr = a at es ha
  generalize t.dropWhile inAttr = r1 at es hst h
  have es2 := tw_dw spB r1
  have hsp := tw_all spB r1
  have hst2 := dw_stops spB r1
  have hin : r1.takeWhile spB = [] → Stops inAttr (r1.dropWhile spB) := by
    intro e; rw [e, List.nil_append] at es2; rw [es2]; exact hst
  generalize r1.takeWhile spB = sp at es2 hsp hin
  generalize r1.dropWhile spB = r2 at es2 hst2 h hin
  subst es2; subst es
  have hnm : ∀ X : List UInt8, X.head? = r2.head? → nameP ((c :: (a ++ sp)) ++ X) = c :: a ∧ attrP ((c :: (a ++ sp)) ++ X) = behP X := by
    intro X hX
    have h2 : Stops spB X := stops_head hst2 hX
    cases sp with
    | nil => exact attr_at c a [] X ha hsp (stops_head (hin rfl) hX) h2
    | cons x sp =>
      have hst' : Stops inAttr ((x :: sp) ++ X) := by intro y hy; simp at hy; subst hy; exact (sp_facts (hsp x (by simp))).1
      obtain ⟨e1, e2⟩ := tw_app inAttr a ((x :: sp) ++ X) ha hst'
      obtain ⟨e3, e4⟩ := tw_app spB (x :: sp) X hsp h2
      rw [List.cons_append, name_cons, attr_cons, List.append_assoc, e1, e2, e4]
      exact ⟨rfl, rfl⟩
  have hs : c :: (a ++ (sp ++ r2)) = (c :: (a ++ sp)) ++ r2 := by simp
  have hn := (hnm r2 rfl).1
  rw [← hs] at hn
  cases r2 with
  | nil => simp only [behP, Prod.mk.injEq] at h; exact absurd h.2.symm hr
  | cons d u =>
    by_cases hd : d = 61
    · subst hd
      right
      have es3 := tw_dw spB u
      have hsp3 := tw_all spB u
      have hst3 := dw_stops spB u
      have hb : behP (61 :: u) = (some ((valP (u.dropWhile spB)).1.length, (valP (u.dropWhile spB)).2.1), (valP (u.dropWhile spB)).2.2) := rfl
      rw [hb] at h
      generalize u.takeWhile spB = sp2 at es3 hsp3
      generalize u.dropWhile spB = u2 at es3 hst3 h
      subst es3
      simp only [Prod.mk.injEq] at h
      obtain ⟨h1, h2⟩ := h
      cases u2 with
      | nil => exact absurd h2.symm hr
      | cons x u3 =>
        by_cases hq : qB x = true
        · have hv : valP (x :: u3) = (u3, u3.takeWhile (notQ x), (u3.dropWhile (notQ x)).drop 1) := by simp only [valP]; rw [if_pos hq]
          rw [hv] at h1 h2
          simp only at h1 h2
          have es4 := tw_dw (notQ x) u3
          have hq4 := tw_all (notQ x) u3
          have hst4 := dw_stops (notQ x) u3
          generalize u3.takeWhile (notQ x) = raw at es4 hq4 h1
          generalize u3.dropWhile (notQ x) = r3 at es4 hst4 h2
          cases r3 with
          | nil => exact absurd h2.symm hr
          | cons y r4 =>
            have hy : y = x := by have := hst4 y rfl; simpa [notQ] using this
            subst hy
            simp only [List.drop_one, List.tail_cons] at h2
            subst h2
            subst es4
            refine ⟨_, h1.symm, c, (a ++ sp) ++ (61 :: (sp2 ++ [y])), raw, [y], by simp, by simp, fun raw' X hk hX => ?_⟩
            have hall : ∀ z ∈ raw', notQ y z = true := by
              rcases hk with rfl | ⟨_, hp⟩
              · exact hq4
              · intro z hz; exact okT_quote (List.all_eq_true.1 hp z hz) hq
            have e0 : (c :: ((a ++ sp) ++ (61 :: (sp2 ++ [y])))) ++ (raw' ++ ([y] ++ X)) = (c :: (a ++ sp)) ++ (61 :: (sp2 ++ (y :: (raw' ++ (y :: X))))) := by simp
            rw [e0]
            obtain ⟨k1, k2⟩ := hnm (61 :: (sp2 ++ (y :: (raw' ++ (y :: X))))) rfl
            rw [k1, k2, hn]
            refine ⟨rfl, ?_⟩
            rw [beh_val sp2 (y :: (raw' ++ (y :: X))) hsp3 (fun z hz => by simp at hz; subst hz; exact hst3 _ rfl)]
            have hst5 : Stops (notQ y) (y :: X) := fun z hz => by simp at hz; subst hz; simp [notQ]
            obtain ⟨k3, k4⟩ := tw_app (notQ y) raw' (y :: X) hall hst5
            simp only [valP]
            rw [if_pos hq, k3, k4]
            simp
        · have hv : valP (x :: u3) = (x :: u3, (x :: u3).takeWhile inBare, (x :: u3).dropWhile inBare) := by simp only [valP]; rw [if_neg hq]
          rw [hv] at h1 h2
          simp only at h1 h2
          have hx3 := hst3 x rfl
          have es4 := tw_dw inBare (x :: u3)
          have hb4 := tw_all inBare (x :: u3)
          have hst4 := dw_stops inBare (x :: u3)
          generalize hraw : (x :: u3).takeWhile inBare = raw at es4 hb4 h1
          generalize (x :: u3).dropWhile inBare = r3 at es4 hst4 h2
          subst h2
          refine ⟨_, h1.symm, c, (a ++ sp) ++ (61 :: sp2), raw, [], by simp [es4], by simp [es4], fun raw' X hk hX => ?_⟩
          have hall : (∀ z ∈ raw', inBare z = true) ∧ Stops qB (raw' ++ X) ∧ Stops spB (raw' ++ X) := by
            have hcase : raw' = raw → Stops qB (raw' ++ X) ∧ Stops spB (raw' ++ X) := by
              rintro rfl
              have hh : (raw' ++ X).head? = some x := by
                cases raw' with
                | nil => rw [List.nil_append, hX]; rw [List.nil_append] at es4; rw [es4]; rfl
                | cons z raw' => rw [List.cons_append] at es4; simp only [List.cons_append, List.head?_cons]; rw [List.cons.injEq] at es4; rw [es4.1]
              exact ⟨fun z hz => by rw [hh] at hz; cases hz; simpa using hq, fun z hz => by rw [hh] at hz; cases hz; exact hx3⟩
            rcases hk with rfl | ⟨hne, hp⟩
            · exact ⟨hb4, hcase rfl⟩
            · refine ⟨fun z hz => (okT_facts (List.all_eq_true.1 hp z hz)).1, ?_, ?_⟩
              · intro z hz
                cases raw' with
                | nil => exact absurd rfl hne
                | cons z' raw' => simp at hz; subst hz; exact (okT_facts (List.all_eq_true.1 hp _ (by simp))).2.2.1
              · intro z hz
                cases raw' with
                | nil => exact absurd rfl hne
                | cons z' raw' => simp at hz; subst hz; exact (okT_facts (List.all_eq_true.1 hp _ (by simp))).2.1
          obtain ⟨g1, g2, g3⟩ := hall
          have e0 : (c :: ((a ++ sp) ++ (61 :: sp2))) ++ (raw' ++ ([] ++ X)) = (c :: (a ++ sp)) ++ (61 :: (sp2 ++ (raw' ++ X))) := by simp
          rw [e0]
          obtain ⟨k1, k2⟩ := hnm (61 :: (sp2 ++ (raw' ++ X))) rfl
          rw [k1, k2, hn]
          refine ⟨rfl, ?_⟩
          rw [beh_val sp2 (raw' ++ X) hsp3 g3]
          obtain ⟨k3, k4⟩ := tw_app inBare raw' X g1 (stops_head hst4 hX)
          have hvv : valP (raw' ++ X) = (raw' ++ X, raw', X) := by
            cases hY : raw' ++ X with
            | nil =>
              have : raw' = [] ∧ X = [] := by simpa using hY
              rw [this.1, this.2]; rfl
            | cons z Z =>
              rw [hY] at k3 k4 g2
              simp only [valP]
              rw [if_neg (by rw [g2 z rfl]; decide), k3, k4]
          rw [hvv]
          simp
    · left
      simp only [behP] at h
      rw [if_neg hd] at h
      simp only [Prod.mk.injEq] at h
      obtain ⟨rfl, rfl⟩ := h
      refine ⟨rfl, c, a ++ sp, hs, fun X hX => ?_⟩
      obtain ⟨k1, k2⟩ := hnm X hX
      rw [k1, k2, hn]
      refine ⟨rfl, ?_⟩
      cases X with
      | nil => cases hX
      | cons z Z =>
        simp at hX
        subst hX
        simp only [behP]
        rw [if_neg hd]

end Go.Proofs.YtdlnlepecdcmjaaDoor

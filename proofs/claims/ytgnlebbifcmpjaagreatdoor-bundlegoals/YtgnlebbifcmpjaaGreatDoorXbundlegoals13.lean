/- link's Find: the links of a page, in new memory; nothing that was there is changed. -/
import Derived.Test.YtgnlebbifcmpjaaGreatDoorXbundlegoals12
import Derived.Laws.AppendOwnNone
import Derived.Test.YtgnlebbifcmpjaaGreatDoorXbundlegoals7
namespace Go.Proofs.YtgnlebbifcmpjaaGreatDoor
open Go.RowKit

theorem lv_one (n : Nat) (l : List LK) : ∀ u ∈ lv n l, u.oneCell' = true := by
  intro u hu
  simp only [lv, List.mem_flatMap, lkv] at hu
  obtain ⟨x, _, hx⟩ := hu
  simp at hx
  rcases hx with rfl | rfl | rfl <;> rfl
/-- A list of links is put behind another one. -/
theorem append_links {w : World} {ops : Array Oper} {rest : List Oper} {o : Oper} {a : Act} {Q : Exit → Act → World → Prop} (hgd : o.guard = none) (s x : Operand)
    (ho : o.op = .call { callee := .builtin .append, args := #[s, x], argTypes := #[48, 48] })
    (base : Nat) (v : Value) (n : Nat) (xs : List Value) (hs : a.eval s = v) (hown : w.ownsRow base 40 3 v n xs)
    (B2 : Nat) (v2 : Value) (N : Nat) (l : List LK) (hx : a.eval x = v2) (hr : w.ownsRow B2 40 3 v2 l.length (lv N l))
    (h63 : n + l.length ≤ 100000000) (hbase : base ≤ w.heap.size)
    (h : ∀ v' w', w'.ownsRow base 40 3 v' (n + l.length) (xs ++ lv N l) → w.grownBy w' v.ownBlock → wpList Tryz.prog ops Q rest (a.put o.dst v') w') : wpList Tryz.prog ops Q (o :: rest) a w := by
  obtain ⟨i0, hi, hz0, hz1, hz2⟩ := info_parts info_link
  have hcl := fun g hg => hr.cells (g := g) hg
  rcases hr.2 with ⟨hv, h0⟩ | ⟨g, cap, cur, hv, _⟩
  · subst hv
    have hl : l = [] := List.length_eq_zero_iff.1 h0
    subst hl
    refine wpList_append_own_none hgd s x 48 ho base 40 i0 3 Tryz.underlying48 hi v n xs hs hown hx ?_
    refine h v w (by simpa [lv] using hown) (World.grownBy.refl _ _)
  · subst hv
    refine wpList_append_own _ hgd s x 48 ho base 40 i0 (.agg #[.int .i64 0, .int .i64 0, .string ⟨#[]⟩]) 3 32 Tryz.underlying48 hi hz0 hz1 hz2 rfl (by decide) v n xs hs hown ⟨g, 0, none⟩ l.length cap (lv N l) hx (lv_length N l) (hcl g rfl) (lv_one N l) (by unfold maxLen; omega) (by omega) hbase (fun v' w' h1 h2 _ => h v' w' h1 h2)
/-- What Find answers. -/
def FindPost (w : World) (N : Nat) (r : Option (List LK)) (e : Ending) (w' : World) : Prop := Below w.heap.size w w' ∧ match r with
  | none => e = .returned (.tuple #[.slice none 0 0, .int .i64 2])
  | some l => ∃ v, e = .returned (.tuple #[v, .int .i64 0]) ∧ w'.ownsRow w.heap.size 40 3 v l.length (lv N l)
structure FindAt (w : World) (G : Nat) (p : ByteArray) (b : List UInt8) (gk : Nat) (v : Value) (wr : World) (sj : List UInt8) (acc : List LK) : Prop where
  few : sj.length < gk
  la : acc.length ≤ 60
  suf : Suf p sj
  rd : RdAt wr G p (pos p sj)
  bel : Below w.heap.size w wr
  own : wr.ownsRow (w.heap.size + 1) 40 3 v acc.length (lv p.size acc)
  eq : findP lowT b = findF lowT sj.length acc sj
theorem tag_few (low : List UInt8 → List UInt8) : ∀ (n : Nat) (seen : List (List UInt8)) (s : List UInt8) (l : List LK), (tagF low n seen s).1 = some l → l.length ≤ s.length
  | 0, _, _, _, h => by cases h
  | n + 1, seen, s, l, h => by
    unfold tagF at h
    cases hd : s.dropWhile inGap with
    | nil => rw [hd] at h; cases h
    | cons c t =>
      rw [hd] at h
      simp only at h
      have h3 := dropWhile_le_cons hd
      have h4 := attr_len c t
      split at h
      · cases h; exact Nat.zero_le _
      · simp only [Option.map_eq_some_iff] at h
        obtain ⟨l1, h1, rfl⟩ := h
        have h5 := tag_few low n _ _ l1 h1
        have h6 : (mineP seen (low (nameP (c :: t))) (attrP (c :: t)).1).length ≤ 1 := by
          unfold mineP
          split
          · exact Nat.zero_le _
          · split <;> simp
        rw [List.length_append]
        omega
theorem piece_few (low : List UInt8 → List UInt8) (s : List UInt8) : (pieceP low s).1.length ≤ s.length := by
  unfold pieceP
  split
  · exact Nat.zero_le _
  · split
    · exact Nat.zero_le _
    · split
      · simp only [tagP]
        cases h : (tagF low ((List.dropWhile inName (List.drop 1 s)).length + 1) [] (List.dropWhile inName (List.drop 1 s))).1 with
        | none => exact Nat.zero_le _
        | some l =>
          have h1 := tag_few low _ _ _ l h
          have h2 := drop_dropWhile inName (List.drop 1 s)
          rw [List.length_drop] at h2
          simp only [Option.getD_some]
          omega
      · split <;> exact Nat.zero_le _
set_option maxHeartbeats 8000000 in
set_option maxRecDepth 100000 in
theorem find_any (w0 : World) (HE : LEnv w0) (q : Option Addr) (n c : Nat) (b : List UInt8) (en : n = b.length) (w : World) (hb : Below w0.heap.size w0 w) (hr : BRow w q b) (hq : q = none → n = 0 ∧ c = 0) :
    Calls Tryz.prog 22 #[.slice q n c] w fun e w' => FindPost w b.length (findP lowT b) e w' := by
  by_cases h4 : 4000 < n
  · have h4' : (4000 : Int) < (n : Int) := by omega
    have HN : Hid (findP lowT b = none) := by unfold Hid findP; rw [if_pos (by omega)]
    clear en
    go_enter Tryz.func22, Tryz.ntmps22
    go_wp2_with fail
    go_ret2
    show FindPost _ _ _ _ _
    rw [HN.out]
    exact ⟨Below.refl _ _, rfl⟩
  · have h4' : ¬ (4000 : Int) < (n : Int) := by omega
    have hcv := conv_bytes w q n c b en hr hq
    obtain ⟨p, hp⟩ : ∃ p, p = lba b := ⟨_, rfl⟩
    have hps : p.size = b.length := by rw [hp, lba_size]
    have hpd : p.data.toList = b := by rw [hp]; rfl
    have hcv' : (convert 22 9 (.slice q n c)).run Tryz.prog w = .ok (.string p) w := by rw [hp]; exact hcv
    have hb4 : p.size ≤ 4000 := by omega
    have HG : Hid (w0.heap.size ≤ w.heap.size) := hb.size
    have HEV : Hid (LEnv w0) := HE
    have HB : Hid (Below w0.heap.size w0 w) := hb
    have hba : Below w.heap.size w (w.alloc (.cells #[.string p, .int .i64 0] 110)) := (Below.refl _ _).alloc (Nat.le_refl _) _
    have hr0 : RdAt (w.alloc (.cells #[.string p, .int .i64 0] 110)) w.heap.size p (pos p b) := by
      have := rd_new w p 0
      have e : ((pos p b : Nat) : Int) = 0 := by unfold pos; omega
      rw [e]
      exact this
    have HA0 : Hid (FindAt w w.heap.size p b (b.length + 1) (.slice none 0 0) (w.alloc (.cells #[.string p, .int .i64 0] 110)) b []) := ⟨Nat.lt_succ_self _, by simp, by unfold Suf; rw [hpd]; exact List.suffix_refl _, hr0, hba, World.ownsRow_nil _ _ _ _, by unfold findP; rw [if_neg (by omega)]⟩
    have HPS : Hid (p.size = b.length) := hps
    have HPO : Hid (∀ e w', FindPost w p.size (findP lowT b) e w' → FindPost w b.length (findP lowT b) e w') := fun e w' h => hps ▸ h
    clear hcv hp hpd en hr hq HE hb hba hr0 hps
    go_enter Tryz.func22, Tryz.ntmps22
    go_wp2_with fail
    go_loopg [5] (b.length + 1) (fun gk v wr => ∃ (sj : List UInt8) (acc : List LK), Hid (FindAt w w.heap.size p b gk v wr sj acc))
    case atStart => exact ⟨b, [], HA0⟩
    case round =>
      obtain ⟨sj, acc, HJ⟩ := hrel
      clear HA0 hcv'
      obtain ⟨a3, c3, rfl, hac, hcm, hnn⟩ := slice_of HJ.out.own
      have hla := HJ.out.la
      have hSj := HJ.out.suf
      have CD : Hid (∀ W, RdAt W w.heap.size p (pos p sj) → Calls Tryz.prog 67 #[.pointer (some ⟨w.heap.size, 0, none⟩)] W fun e w' => e = .returned (.bool (decide (sj = []))) ∧ ∃ m, w' = W.drewN m) := fun W hW => done_suf _ p _ hSj _ rfl W hW
      go_wp2_with fail
      refine (CD.out _ HJ.out.rd).mono ?_
      rintro e w2 ⟨rfl, n2, rfl⟩
      clear CD
      by_cases hs : sj = []
      · rw [decide_eq_true hs]
        have HN : Hid (findP lowT b = some acc) := by unfold Hid; rw [HJ.out.eq, hs]; rfl
        have HF : Hid (Below w.heap.size w (wr.drewN n2)) := below_many HJ.out.bel _
        have HO : Hid ((wr.drewN n2).ownsRow w.heap.size 40 3 (.slice a3 acc.length c3) acc.length (lv p.size acc)) := ownsRow_base HJ.out.own (by omega)
        clear HJ hs hSj
        go_wp2_with fail
        go_ret2
        refine HPO.out _ _ ?_
        show FindPost _ _ _ _ _
        rw [HN.out]
        exact ⟨HF.out, _, rfl, HO.out⟩
      · rw [decide_eq_false hs]
        have HR2 := HJ.out.rd.drewN n2
        have HB2 : Below w.heap.size w (wr.drewN n2) := below_many HJ.out.bel _
        have HO2 : (wr.drewN n2).ownsRow (w.heap.size + 1) 40 3 (.slice a3 acc.length c3) acc.length (lv p.size acc) := HJ.out.own
        generalize wr.drewN n2 = w2 at *
        have CP : Hid (Calls Tryz.prog 68 #[.pointer (some ⟨w.heap.size, 0, none⟩)] w2 fun e w' => TagPost w2 w.heap.size p (some (pieceP lowT sj).1, (pieceP lowT sj).2) e w') := piece_any w0 HEV.out w.heap.size HG.out p sj hs hSj w2 HR2 (HB.out.trans (HB2.mono HG.out)) hb4
        have HEQ : Hid (findP lowT b = if 60 < (acc ++ (pieceP lowT sj).1).length then none else findF lowT (pieceP lowT sj).2.length (acc ++ (pieceP lowT sj).1) (pieceP lowT sj).2) := by
          unfold Hid
          rw [HJ.out.eq]
          cases sj with
          | nil => exact absurd rfl hs
          | cons c t =>
            have hl := piece_len lowT c t
            rw [List.length_cons, findF, if_neg (by simp)]
            rw [findF_fuel lowT t.length (pieceP lowT (c :: t)).2.length _ _ (by simp only [List.length_cons] at hl; omega) (Nat.le_refl _)]
        have hpl : (pieceP lowT sj).2.length < gk - 1 := by
          have h1 := HJ.out.few
          cases sj with
          | nil => exact absurd rfl hs
          | cons c t => have := piece_len lowT c t; omega
        have hpf : (pieceP lowT sj).1.length ≤ 4000 := by have := piece_few lowT sj; have := hSj.len; omega
        have HSF : Hid (Suf p (pieceP lowT sj).2) := (piece_suf lowT sj).trans hSj
        have hfew := HJ.out.few
        clear HJ hs hSj
        generalize (pieceP lowT sj).1 = l2 at *
        generalize (pieceP lowT sj).2 = R2 at *
        go_wp2_with fail
        refine CP.out.mono ?_
        rintro e w3 ⟨v3, rfl, hown3, hm3⟩
        simp only [Option.getD_some] at hown3
        have hr3 := hm3.rd HR2
        have hb3 : Below w.heap.size w w3 := hm3.base HB2 (Nat.le_refl _)
        have hown2 := hm3.owns HO2 (by omega)
        have hlt3 := hr3.lt
        have HOB : Hid (∀ k, (Value.slice a3 acc.length c3).ownBlock = some k → w.heap.size + 1 ≤ k ∧ k < w3.heap.size) := hown2.lt
        obtain ⟨a4, c4, rfl, _, _, _⟩ := slice_of hown3
        clear CP HR2 HB2 HO2 hm3
        go_wp2_with (at_builtin; refine append_links rfl (.tmp 16) (.tmp 18) rfl (w.heap.size + 1) _ acc.length (lv p.size acc) rfl hown2 _ _ p.size l2 rfl hown3 (by omega) (by omega) ?_)
        intro v5 w5 hown5 hg5
        have hr5 : RdAt w5 w.heap.size p (pos p R2) := hr3.grown hg5 (by intro e; have := HOB.out _ e.symm; omega)
        have hb5 : Below w.heap.size w w5 := hb3.grown hg5 hb3.size (fun k hk => by have := HOB.out k hk; omega)
        have hown5' : w5.ownsRow (w.heap.size + 1) 40 3 v5 (acc ++ l2).length (lv p.size (acc ++ l2)) := by rw [lv_app, List.length_append]; exact hown5
        clear hown5 hg5 hr3 hb3 hown2 hown3 HOB
        obtain ⟨a5, c5, rfl, hac5, hcm5, _⟩ := slice_of hown5'
        have e5 : (acc ++ l2).length = acc.length + l2.length := List.length_append
        have HO5 : Hid (w5.ownsRow (w.heap.size + 1) 40 3 (.slice a5 (acc ++ l2).length c5) (acc ++ l2).length (lv p.size (acc ++ l2))) := hown5'
        clear hown5'
        by_cases h60 : 60 < (acc ++ l2).length
        · have h60' : (60 : Int) < (((acc ++ l2).length : Nat) : Int) := by omega
          have HN : Hid (findP lowT b = none) := by unfold Hid; rw [HEQ.out, if_pos h60]
          have HF : Hid (Below w.heap.size w w5) := hb5
          clear HEQ hr5 hb5 HO5 HSF e5
          generalize (acc ++ l2).length = nn at *
          go_wp2_with fail
          go_ret2
          refine HPO.out _ _ ?_
          show FindPost _ _ _ _ _
          rw [HN.out]
          exact ⟨HF.out, rfl⟩
        · have h60' : ¬ (60 : Int) < (((acc ++ l2).length : Nat) : Int) := by omega
          have HRL : Hid (FindAt w w.heap.size p b (gk - 1) (.slice a5 (acc ++ l2).length c5) w5 R2 (acc ++ l2)) := ⟨hpl, by omega, HSF.out, hr5, hb5, HO5.out, by rw [HEQ.out, if_neg h60]⟩
          clear HEQ hr5 hb5 HO5 HSF e5
          generalize (acc ++ l2).length = nn at *
          go_wp2_with fail
          go_roundg (gk - 1)
          case measure => omega
          case rel => exact ⟨R2, acc ++ l2, HRL⟩
end Go.Proofs.YtgnlebbifcmpjaaGreatDoor

/- Plain facts: texts in the places of a page's links are found there. No program. -/
namespace Go.Proofs.YtgnlebbifcmpjaaGreatDoor

def repl : List SG → List (List UInt8) → List SG
  | [], _ => []
  | (false, x) :: ss, ts => (false, x) :: repl ss ts
  | (true, r) :: ss, t :: ts => (true, if t = [] then r else t) :: repl ss ts
  | (true, r) :: ss, [] => (true, r) :: repl ss []
theorem fill_repl : ∀ (ss : List SG) (ts : List (List UInt8)) (pre : List UInt8), ts.length = (leftsS ss 0).length → fillP (leftsS ss 0) ts (pre ++ flatS ss) = pre ++ flatS (repl ss ts)
  | [], ts, pre, h => by
    obtain rfl : ts = [] := List.length_eq_zero_iff.1 h
    rfl
  | (false, x) :: ss, ts, pre, h => by
    rw [lefts_lit] at h ⊢
    have := fill_repl ss ts (pre ++ x) h
    rw [flat_cons, ← List.append_assoc, this, repl, flat_cons, List.append_assoc]
  | (true, r) :: ss, [], pre, h => by rw [lefts_val] at h; cases h
  | (true, r) :: ss, t :: ts, pre, h => by
    rw [lefts_val] at h ⊢
    have hl : ts.length = (leftsS ss 0).length := by simpa using h
    rw [fillP, repl]
    split
    · have := fill_repl ss ts (pre ++ r) hl
      rw [flat_cons, ← List.append_assoc, this, flat_cons, List.append_assoc]
    · have := fill_repl ss ts [] hl
      rw [List.nil_append, List.nil_append] at this
      have e1 : (pre ++ flatS ((true, r) :: ss)).length - ((r ++ flatS ss).length + 0) = pre.length := by rw [flat_cons]; simp only [List.length_append]; omega
      simp only
      rw [e1, flat_cons, List.take_left, ← List.drop_drop, List.drop_left, List.drop_left, this, flat_cons, List.append_assoc]
theorem rep_repl : ∀ (ss : List SG) (ts : List (List UInt8)), ts.all plainT = true → Rep ss (repl ss ts)
  | [], _, _ => trivial
  | (false, x) :: ss, ts, h => ⟨rfl, (fun e => by cases e), fun _ => rfl, rep_repl ss ts h⟩
  | (true, r) :: ss, [], h => ⟨rfl, fun _ => .inl rfl, (fun e => by cases e), rep_repl ss [] h⟩
  | (true, r) :: ss, t :: ts, h => by
    simp only [List.all_cons, Bool.and_eq_true] at h
    refine ⟨rfl, fun _ => ?_, (fun e => by cases e), rep_repl ss ts h.2⟩
    show okR r (if t = [] then r else t)
    split
    · exact .inl rfl
    · rename_i ht
      exact .inr ⟨ht, h.1⟩
/-- What Put answers is found as it should be. -/
theorem puts_plain (low : List UInt8 → List UInt8) (b : List UInt8) (l : List LK) (ts : List (List UInt8)) (hf : findP low b = some l) (hl : ts.length = l.length) (hp : ts.all plainT = true) (hc : (fillP l ts b).length ≤ 4000) :
    ∃ ss, b = flatS ss ∧ l = leftsS ss 0 ∧ fillP l ts b = flatS (repl ss ts) ∧ findP low (fillP l ts b) = some (leftsS (repl ss ts) 0) := by
  unfold findP at hf
  split at hf
  · cases hf
  · obtain ⟨ss, h1, h2, h3⟩ := find_seg low b.length [] b l (Nat.le_refl _) hf
    rw [List.nil_append] at h2
    have hfill : fillP l ts b = flatS (repl ss ts) := by
      have := fill_repl ss ts [] (by rw [← h2]; exact hl)
      rw [List.nil_append, List.nil_append, ← h1, ← h2] at this
      exact this
    refine ⟨ss, h1, h2, hfill, ?_⟩
    rw [hfill] at hc ⊢
    unfold findP
    rw [if_neg (by omega)]
    have := (h3 (repl ss ts) [] (flatS (repl ss ts)).length (rep_repl ss ts hp) rfl (Nat.le_refl _)).1
    rw [this, List.nil_append]
theorem repl_lefts : ∀ (ss : List SG) (ts : List (List UInt8)) (k m : Nat), (leftsS (repl ss ts) k).length = (leftsS ss m).length
  | [], _, _, _ => rfl
  | (false, x) :: ss, ts, k, m => by rw [repl, lefts_lit, lefts_lit]; exact repl_lefts ss ts k m
  | (true, r) :: ss, [], k, m => by rw [repl, lefts_val, lefts_val]; simp [repl_lefts ss [] k m]
  | (true, r) :: ss, t :: ts, k, m => by rw [repl, lefts_val, lefts_val]; simp [repl_lefts ss ts k m]
/-- The next link. -/
theorem next_link : ∀ (ss : List SG) (ts : List (List UInt8)) (x : LK) (ls : List LK) (t : List UInt8) (ts' : List (List UInt8)), leftsS ss 0 = x :: ls → ts = t :: ts' →
    ∃ lit ss1, flatS ss = lit ++ (x.2 ++ flatS ss1) ∧ x.1 = (x.2 ++ flatS ss1).length ∧ ls = leftsS ss1 0 ∧
      ∃ r', r' = (if t = [] then x.2 else t) ∧ flatS (repl ss ts) = lit ++ (r' ++ flatS (repl ss1 ts')) ∧ leftsS (repl ss ts) 0 = ((r' ++ flatS (repl ss1 ts')).length, r') :: leftsS (repl ss1 ts') 0
  | [], _, _, _, _, _, h, _ => by cases h
  | (false, y) :: ss, ts, x, ls, t, ts', h, e => by
    rw [lefts_lit] at h
    obtain ⟨lit, ss1, h1, h2, h3, r', h4, h5, h6⟩ := next_link ss ts x ls t ts' h e
    refine ⟨y ++ lit, ss1, by rw [flat_cons, h1, List.append_assoc], h2, h3, r', h4, ?_, ?_⟩
    · rw [repl, flat_cons, h5, List.append_assoc]
    · rw [repl, lefts_lit, h6]
  | (true, r) :: ss, ts, x, ls, t, ts', h, e => by
    subst e
    rw [lefts_val] at h
    obtain ⟨rfl, rfl⟩ := List.cons.inj h
    refine ⟨[], ss, by rw [flat_cons]; rfl, rfl, rfl, _, rfl, ?_, ?_⟩
    · rw [repl, flat_cons]; rfl
    · rw [repl, lefts_val]; rfl
theorem index_no (d : UInt8) (s a : List UInt8) (h : ∀ c ∈ a, c ≠ d) : Lib.index a (d :: s) = -1 := by
  induction a with
  | nil => rfl
  | cons c a ih =>
    have hc : (d == c) = false := by simp; exact fun e => h c (by simp) e.symm
    have := ih (fun e he => h e (by simp [he]))
    simp [Lib.index, List.isPrefixOf, hc, this]
theorem unamp_no (t : List UInt8) (h : ∀ c ∈ t, c ≠ 38) : unamp t = t := by
  have hi : Lib.index t ampL = -1 := index_no 38 [97, 109, 112, 59] t h
  unfold unamp Lib.replaceAll Lib.replace
  rw [if_neg (by decide)]
  have : Lib.count t ampL = 0 := Lib.count_miss hi
  unfold Lib.replaceNum
  rw [if_pos (.inl (by decide)), this]
  rfl
theorem unamp_plain (t : List UInt8) (h : plainT t = true) : unamp t = t := unamp_no t fun c hc => (okT_facts (List.all_eq_true.1 h c hc)).2.2.2

/-- Where no tag can begin. -/
theorem find_none (low : List UInt8 → List UInt8) : ∀ (b c : List UInt8) (n m : Nat) (acc : List LK), (∀ x ∈ b, x ≠ 60) → b.length + c.length ≤ n → c.length ≤ m → acc.length ≤ 60 → findF low n acc (b ++ c) = findF low m acc c
  | [], c, n, m, acc, _, h1, h2, _ => findF_fuel low n m acc c (by simpa using h1) h2
  | x :: b, c, 0, m, acc, _, h1, _, _ => by simp at h1
  | x :: b, c, n + 1, m, acc, hb, h1, h2, h3 => by
    have hx := hb x (by simp)
    rw [List.cons_append, findF, if_neg (by simp), piece_other low x (b ++ c) (by unfold other; cases b ++ c <;> simp [hx])]
    simp only [List.append_nil]
    rw [if_neg (by omega)]
    exact find_none low b c n m acc (fun y hy => hb y (by simp [hy])) (by simp at h1; omega) h2 h3
theorem fill_nil : ∀ (l : List LK) (ts : List (List UInt8)) (b : List UInt8), (∀ t ∈ ts, t = []) → fillP l ts b = b
  | [], _, _, _ => by simp [fillP]
  | _ :: _, [], _, _ => by simp [fillP]
  | x :: l, t :: ts, b, h => by
    rw [fillP, if_pos (h t (by simp))]
    exact fill_nil l ts b (fun u hu => h u (by simp [hu]))
end Go.Proofs.YtgnlebbifcmpjaaGreatDoor

/- Links as they lie in memory, and their order. No function of the program. -/
namespace Go.Proofs.YtgnlebbifcmpjaaGreatDoor
open Go.RowKit

/-- Links lie behind the address. -/
def KRow (w : World) (p : Option Addr) (N : Nat) (l : List LK) : Prop := l ≠ [] → ∃ b, p = some ⟨b, 0, none⟩ ∧ ∀ i, i < l.length → w.cell? ⟨b, i * 3, none⟩ = some (.int .i64 ((N - (l.getD i (0, [])).1 : Nat) : Int)) ∧ w.cell? ⟨b, i * 3 + 1, none⟩ = some (.int .i64 ((N - (l.getD i (0, [])).1 + (l.getD i (0, [])).2.length : Nat) : Int)) ∧ w.cell? ⟨b, i * 3 + 2, none⟩ = some (.string (lba (unamp (l.getD i (0, [])).2)))
theorem KRow.below {w w' : World} {p : Option Addr} {N : Nat} {l : List LK} (h : KRow w p N l) (hb : Below w.heap.size w w') : KRow w' p N l := by
  intro hne
  obtain ⟨b, rfl, hc⟩ := h hne
  refine ⟨b, rfl, fun i hi => ?_⟩
  obtain ⟨c0, c1, c2⟩ := hc i hi
  have hlt := World.block_lt_of_cell? w _ c0
  exact ⟨(hb.cell (p := ⟨b, i * 3, none⟩) hlt).trans c0, (hb.cell (p := ⟨b, i * 3 + 1, none⟩) hlt).trans c1, (hb.cell (p := ⟨b, i * 3 + 2, none⟩) hlt).trans c2⟩
theorem lv_get (N : Nat) : ∀ (l : List LK) (i : Nat), i < l.length → (lv N l)[i * 3]? = some (.int .i64 ((N - (l.getD i (0, [])).1 : Nat) : Int)) ∧ (lv N l)[i * 3 + 1]? = some (.int .i64 ((N - (l.getD i (0, [])).1 + (l.getD i (0, [])).2.length : Nat) : Int)) ∧ (lv N l)[i * 3 + 2]? = some (.string (lba (unamp (l.getD i (0, [])).2)))
  | [], i, h => by simp at h
  | x :: l, 0, _ => by simp [lv, lkv]
  | x :: l, i + 1, h => by
    have e : lv N (x :: l) = (lkv N x).toList ++ lv N l := by simp [lv]
    have hl : (lkv N x).toList.length = 3 := by simp [lkv]
    have := lv_get N l i (by simpa using h)
    have e1 : ∀ j, ((lkv N x).toList ++ lv N l)[(i + 1) * 3 + j]? = (lv N l)[i * 3 + j]? := fun j => by
      rw [List.getElem?_append_right (by rw [hl]; omega), hl, show (i + 1) * 3 + j - 3 = i * 3 + j from by omega]
    have e0 := e1 0
    simp only [Nat.add_zero] at e0
    rw [e, e0, e1 1, e1 2]
    simpa using this
theorem owned_links {w : World} {B N : Nat} {v : Value} {l : List LK} (h : w.ownsRow B 40 3 v l.length (lv N l)) : ∃ p c, v = .slice p l.length c ∧ l.length ≤ c ∧ c ≤ maxLen ∧ (p = none → l.length = 0 ∧ c = 0) ∧ KRow w p N l := by
  have hcl := fun g hg => h.cells (g := g) hg
  rcases h.2 with ⟨rfl, h0⟩ | ⟨g, cap, cur, rfl, _, _, hn, hm, _, _⟩
  · exact ⟨none, 0, by rw [h0], by omega, by decide, fun _ => ⟨h0, rfl⟩, fun hne => absurd (List.length_eq_zero_iff.1 h0) hne⟩
  · refine ⟨some ⟨g, 0, none⟩, cap, rfl, hn, hm, (fun h => by cases h), fun hne => ⟨g, rfl, fun i hi => ?_⟩⟩
    obtain ⟨c0, c1, c2⟩ := lv_get N l i hi
    have k0 := hcl g rfl (i * 3) _ c0
    have k1 := hcl g rfl (i * 3 + 1) _ c1
    have k2 := hcl g rfl (i * 3 + 2) _ c2
    rw [Addr.add_lit, Nat.zero_add] at k0 k1 k2
    exact ⟨k0, k1, k2⟩
/-- Links in order, behind a place. -/
def Ord (N : Nat) : Nat → List LK → Prop
  | _, [] => True
  | d, x :: ls => x.1 ≤ N ∧ d ≤ N - x.1 ∧ x.2.length ≤ x.1 ∧ Ord N (N - x.1 + x.2.length) ls
theorem Ord.mono {N : Nat} : ∀ {l : List LK} {d d' : Nat}, Ord N d l → d' ≤ d → Ord N d' l
  | [], _, _, _, _ => trivial
  | _ :: _, _, _, h, hd => ⟨h.1, Nat.le_trans hd h.2.1, h.2.2.1, h.2.2.2⟩
theorem ord_lefts : ∀ (ss : List SG) (N d : Nat), d + (flatS ss).length = N → Ord N d (leftsS ss 0)
  | [], _, _, _ => trivial
  | (false, t) :: ss, N, d, h => by
    rw [lefts_lit]
    rw [flat_cons, List.length_append] at h
    exact (ord_lefts ss N (d + t.length) (by omega)).mono (by omega)
  | (true, t) :: ss, N, d, h => by
    rw [lefts_val]
    rw [flat_cons, List.length_append] at h
    have e : N - ((t ++ flatS ss).length + 0) = d := by rw [List.length_append]; omega
    refine ⟨by simp only [List.length_append]; omega, by simp only [e]; omega, by simp only [List.length_append]; omega, ?_⟩
    simp only [e]
    exact ord_lefts ss N (d + t.length) (by omega)
theorem find_ord (low : List UInt8 → List UInt8) (b : List UInt8) (l : List LK) (h : findP low b = some l) : Ord b.length 0 l ∧ l.length ≤ 60 ∧ b.length ≤ 4000 := by
  unfold findP at h
  split at h
  · cases h
  · rename_i h4
    obtain ⟨ss, h1, h2, _⟩ := find_seg low b.length [] b l (Nat.le_refl _) h
    rw [List.nil_append] at h2
    refine ⟨by rw [h2]; exact ord_lefts ss b.length 0 (by rw [← h1]; simp), ?_, by omega⟩
    have : ∀ (n : Nat) (acc : List LK) (s : List UInt8) (L : List LK), findF low n acc s = some L → acc.length ≤ 60 → L.length ≤ 60 := by
      intro n
      induction n with
      | zero => intro acc s L h ha; simp only [findF, Option.some.injEq] at h; rw [← h]; exact ha
      | succ n ih =>
        intro acc s L h ha
        rw [findF] at h
        split at h
        · simp only [Option.some.injEq] at h; rw [← h]; exact ha
        · split at h
          · cases h
          · rename_i h60
            exact ih _ _ _ h (by omega)
    exact this _ _ _ _ h (by simp)
end Go.Proofs.YtgnlebbifcmpjaaGreatDoor

/- Plain facts: texts in the places of a page's links are found there. No program. -/
import Derived.Test.YtdlnlepecdcmjaaDoorXlinksaysupto8
import Derived.Test.YtdlnlepecdcmjaaDoorXlinksaysupto15
import Derived.Lib.AppendStr
namespace Go.Proofs.YtdlnlepecdcmjaaDoor

def repl : List SG → List (List UInt8) → List SG
  | [], _ => []
  | (false, x) :: ss, ts => (false, x) :: repl ss ts
  | (true, r) :: ss, t :: ts => (true, if t = [] then r else t) :: repl ss ts
  | (true, r) :: ss, [] => (true, r) :: repl ss []
theorem fill_repl : ∀ (ss : List SG) (ts : List (List UInt8)) (pre : List UInt8), ts.length = (leftsS ss 0).length → fillP (leftsS ss 0) ts (pre ++ flatS ss) = pre ++ flatS (repl ss ts)
  | [], ts, pre, h => by
    obtain rfl : ts = [] := List.length_eq_zero_iff.1 h
    rfl
  | (false, x) :: ss, ts, pre, h => by
    rw [lefts_lit] at h ⊢
    have := fill_repl ss ts (pre ++ x) h
    rw [flat_cons, ← List.append_assoc, this, repl, flat_cons, List.append_assoc]
  | (true, r) :: ss, [], pre, h => by rw [lefts_val] at h; cases h
  | (true, r) :: ss, t :: ts, pre, h => by
    rw [lefts_val] at h ⊢
    have hl : ts.length = (leftsS ss 0).length := by simpa using h
    rw [fillP, repl]
    split
    · have := fill_repl ss ts (pre ++ r) hl
      rw [flat_cons, ← List.append_assoc, this, flat_cons, List.append_assoc]
    · have := fill_repl ss ts [] hl
      rw [List.nil_append, List.nil_append] at this
      have e1 : (pre ++ flatS ((true, r) :: ss)).length - ((r ++ flatS ss).length + 0) = pre.length := by rw [flat_cons]; simp only [List.length_append]; omega
      simp only
      rw [e1, flat_cons, List.take_left, ← List.drop_drop, List.drop_left, List.drop_left, this, flat_cons, List.append_assoc]
theorem rep_repl : ∀ (ss : List SG) (ts : List (List UInt8)), ts.all plainT = true → Rep ss (repl ss ts)
  | [], _, _ => trivial
  | (false, x) :: ss, ts, h => ⟨rfl, (fun e => by cases e), fun _ => rfl, rep_repl ss ts h⟩
  | (true, r) :: ss, [], h => ⟨rfl, fun _ => .inl rfl, (fun e => by cases e), rep_repl ss [] h⟩
  | (true, r) :: ss, t :: ts, h => by
    simp only [List.all_cons, Bool.and_eq_true] at h
    refine ⟨rfl, fun _ => ?_, (fun e => by cases e), rep_repl ss ts h.2⟩
    show okR r (if t = [] then r else t)
    split
    · exact .inl rfl
    · rename_i ht
      exact .inr ⟨ht, h.1⟩
/-- What Put answers is found as it should be. -/
theorem puts_plain (low : List UInt8 → List UInt8) (b : List UInt8) (l : List LK) (ts : List (List UInt8)) (hf : findP low b = some l) (hl : ts.length = l.length) (hp : ts.all plainT = true) (hc : (fillP l ts b).length ≤ 4000) :
    ∃ ss, b = flatS ss ∧ l = leftsS ss 0 ∧ fillP l ts b = flatS (repl ss ts) ∧ findP low (fillP l ts b) = some (leftsS (repl ss ts) 0) := by
  unfold findP at hf
  split at hf
  · cases hf
  · obtain ⟨ss, h1, h2, h3⟩ := find_seg low b.length [] b l (Nat.le_refl _) hf
    rw [List.nil_append] at h2
    have hfill : fillP l ts b = flatS (repl ss ts) := by
      have := fill_repl ss ts [] (by rw [← h2]; exact hl)
      rw [List.nil_append, List.nil_append, ← h1, ← h2] at this
      exact this
    refine ⟨ss, h1, h2, hfill, ?_⟩
    rw [hfill] at hc ⊢
    unfold findP
    rw [if_neg (by omega)]
    have := (h3 (repl ss ts) [] (flatS (repl ss ts)).length (rep_repl ss ts hp) rfl (Nat.le_refl _)).1
    rw [this, List.nil_append]
theorem repl_lefts : ∀ (ss : List SG) (ts : List (List UInt8)) (k m : Nat), (leftsS (repl ss ts) k).length = (leftsS ss m).length
  | [], _, _, _ => rfl
  | (false, x) :: ss, ts, k, m => by rw [repl, lefts_lit, lefts_lit]; exact repl_lefts ss ts k m
  | (true, r) :: ss, [], k, m => by rw [repl, lefts_val, lefts_val]; simp [repl_lefts ss [] k m]
  | (true, r) :: ss, t :: ts, k, m => by rw [repl, lefts_val, lefts_val]; simp [repl_lefts ss ts k m]
/-- The next link. -/
theorem next_link : ∀ (ss : List SG) (ts : List (List UInt8)) (x : LK) (ls : List LK) (t : List UInt8) (ts' : List (List UInt8)), leftsS ss 0 = x :: ls → ts = t :: ts' →
    ∃ lit ss1, flatS ss = lit ++ (x.2 ++ flatS ss1) ∧ x.1 = (x.2 ++ flatS ss1).length ∧ ls = leftsS ss1 0 ∧
      ∃ r', r' = (if t = [] then x.2 else t) ∧ flatS (repl ss ts) = lit ++ (r' ++ flatS (repl ss1 ts')) ∧ leftsS (repl ss ts) 0 = ((r' ++ flatS (repl ss1 ts')).length, r') :: leftsS (repl ss1 ts') 0
  | [], _, _, _, _, _, h, _ => by cases h
  | (false, y) :: ss, ts, x, ls, t, ts', h, e => by
    rw [lefts_lit] at h
    obtain ⟨lit, ss1, h1, h2, h3, r', h4, h5, h6⟩ := next_link ss ts x ls t ts' h e
    refine ⟨y ++ lit, ss1, by rw [flat_cons, h1, List.append_assoc], h2, h3, r', h4, ?_, ?_⟩
    · rw [repl, flat_cons, h5, List.append_assoc]
    · rw [repl, lefts_lit, h6]
  | (true, r) :: ss, ts, x, ls, t, ts', h, e => by
    subst e
    rw [lefts_val] at h
    obtain ⟨rfl, rfl⟩ := List.cons.inj h
    refine ⟨[], ss, by rw [flat_cons]; rfl, rfl, rfl, _, rfl, ?_, ?_⟩
    · rw [repl, flat_cons]; rfl
    · rw [repl, lefts_val]; rfl
theorem index_no (d : UInt8) (s a : List UInt8) (h : ∀ c ∈ a, c ≠ d) : Lib.index a (d :: s) = -1 := by
  induction a with
  | nil => rfl
  | cons c a ih =>
    have hc : (d == c) = false := by simp; exact fun e => h c (by simp) e.symm
    have := ih (fun e he => h e (by simp [he]))
    simp [Lib.index, List.isPrefixOf, hc, this]
theorem unamp_no (t : List UInt8) (h : ∀ c ∈ t, c ≠ 38) : unamp t = t := by
  have hi : Lib.index t ampL = -1 := index_no 38 [97, 109, 112, 59] t h
  unfold unamp Lib.replaceAll Lib.replace
  rw [if_neg (by decide)]
  have : Lib.count t ampL = 0 := Lib.count_miss hi
  unfold Lib.replaceNum
  rw [if_pos (.inl (by decide)), this]
  rfl
theorem unamp_plain (t : List UInt8) (h : plainT t = true) : unamp t = t := unamp_no t fun c hc => (okT_facts (List.all_eq_true.1 h c hc)).2.2.2

/-- Where no tag can begin. -/
theorem find_none (low : List UInt8 → List UInt8) : ∀ (b c : List UInt8) (n m : Nat) (acc : List LK), (∀ x ∈ b, x ≠ 60) → b.length + c.length ≤ n → c.length ≤ m → acc.length ≤ 60 → findF low n acc (b ++ c) = findF low m acc c
  | [], c, n, m, acc, _, h1, h2, _ => findF_fuel low n m acc c (by simpa using h1) h2
  | x :: b, c, 0, m, acc, _, h1, _, _ => by simp at h1
  | x :: b, c, n + 1, m, acc, hb, h1, h2, h3 => by
    have hx := hb x (by simp)
    rw [List.cons_append, findF, if_neg (by simp), piece_other low x (b ++ c) (by unfold other; cases b ++ c <;> simp [hx])]
    simp only [List.append_nil]
    rw [if_neg (by omega)]
    exact find_none low b c n m acc (fun y hy => hb y (by simp [hy])) (by simp at h1; omega) h2 h3
theorem fill_nil : ∀ (l : List LK) (ts : List (List UInt8)) (b : List UInt8), (∀ t ∈ ts, t = []) → fillP l ts b = b
  | [], _, _, _ => by simp [fillP]
  | _ :: _, [], _, _ => by simp [fillP]
  | x :: l, t :: ts, b, h => by
    rw [fillP, if_pos (h t (by simp))]
    exact fill_nil l ts b (fun u hu => h u (by simp [hu]))
end Go.Proofs.YtdlnlepecdcmjaaDoor

/- Links as they lie in memory, and their order. No function of the program. -/
namespace Go.Proofs.YtdlnlepecdcmjaaDoor
open Go.RowKit

/-- Links lie behind the address. -/
def KRow (w : World) (p : Option Addr) (N : Nat) (l : List LK) : Prop := l ≠ [] → ∃ b, p = some ⟨b, 0, none⟩ ∧ ∀ i, i < l.length → w.cell? ⟨b, i * 3, none⟩ = some (.int .i64 ((N - (l.getD i (0, [])).1 : Nat) : Int)) ∧ w.cell? ⟨b, i * 3 + 1, none⟩ = some (.int .i64 ((N - (l.getD i (0, [])).1 + (l.getD i (0, [])).2.length : Nat) : Int)) ∧ w.cell? ⟨b, i * 3 + 2, none⟩ = some (.string (lba (unamp (l.getD i (0, [])).2)))
theorem KRow.below {w w' : World} {p : Option Addr} {N : Nat} {l : List LK} (h : KRow w p N l) (hb : Below w.heap.size w w') : KRow w' p N l := by
  intro hne
  obtain ⟨b, rfl, hc⟩ := h hne
  refine ⟨b, rfl, fun i hi => ?_⟩
  obtain ⟨c0, c1, c2⟩ := hc i hi
  have hlt := World.block_lt_of_cell? w _ c0
  exact ⟨(hb.cell (p := ⟨b, i * 3, none⟩) hlt).trans c0, (hb.cell (p := ⟨b, i * 3 + 1, none⟩) hlt).trans c1, (hb.cell (p := ⟨b, i * 3 + 2, none⟩) hlt).trans c2⟩
theorem lv_get (N : Nat) : ∀ (l : List LK) (i : Nat), i < l.length → (lv N l)[i * 3]? = some (.int .i64 ((N - (l.getD i (0, [])).1 : Nat) : Int)) ∧ (lv N l)[i * 3 + 1]? = some (.int .i64 ((N - (l.getD i (0, [])).1 + (l.getD i (0, [])).2.length : Nat) : Int)) ∧ (lv N l)[i * 3 + 2]? = some (.string (lba (unamp (l.getD i (0, [])).2)))
  | [], i, h => by simp at h
  | x :: l, 0, _ => by simp [lv, lkv]
  | x :: l, i + 1, h => by
    have e : lv N (x :: l) = (lkv N x).toList ++ lv N l := by simp [lv]
    have hl : (lkv N x).toList.length = 3 := by simp [lkv]
    have := lv_get N l i (by simpa using h)
    have e1 : ∀ j, ((lkv N x).toList ++ lv N l)[(i + 1) * 3 + j]? = (lv N l)[i * 3 + j]? := fun j => by
      rw [List.getElem?_append_right (by rw [hl]; omega), hl, show (i + 1) * 3 + j - 3 = i * 3 + j from by omega]
    have e0 := e1 0
    simp only [Nat.add_zero] at e0
    rw [e, e0, e1 1, e1 2]
    simpa using this
theorem owned_links {w : World} {B N : Nat} {v : Value} {l : List LK} (h : w.ownsRow B 33 3 v l.length (lv N l)) : ∃ p c, v = .slice p l.length c ∧ l.length ≤ c ∧ c ≤ maxLen ∧ (p = none → l.length = 0 ∧ c = 0) ∧ KRow w p N l := by
  have hcl := fun g hg => h.cells (g := g) hg
  rcases h.2 with ⟨rfl, h0⟩ | ⟨g, cap, cur, rfl, _, _, hn, hm, _, _⟩
  · exact ⟨none, 0, by rw [h0], by omega, by decide, fun _ => ⟨h0, rfl⟩, fun hne => absurd (List.length_eq_zero_iff.1 h0) hne⟩
  · refine ⟨some ⟨g, 0, none⟩, cap, rfl, hn, hm, (fun h => by cases h), fun hne => ⟨g, rfl, fun i hi => ?_⟩⟩
    obtain ⟨c0, c1, c2⟩ := lv_get N l i hi
    have k0 := hcl g rfl (i * 3) _ c0
    have k1 := hcl g rfl (i * 3 + 1) _ c1
    have k2 := hcl g rfl (i * 3 + 2) _ c2
    rw [Addr.add_lit, Nat.zero_add] at k0 k1 k2
    exact ⟨k0, k1, k2⟩
/-- Links in order, behind a place. -/
def Ord (N : Nat) : Nat → List LK → Prop
  | _, [] => True
  | d, x :: ls => x.1 ≤ N ∧ d ≤ N - x.1 ∧ x.2.length ≤ x.1 ∧ Ord N (N - x.1 + x.2.length) ls
theorem Ord.mono {N : Nat} : ∀ {l : List LK} {d d' : Nat}, Ord N d l → d' ≤ d → Ord N d' l
  | [], _, _, _, _ => trivial
  | _ :: _, _, _, h, hd => ⟨h.1, Nat.le_trans hd h.2.1, h.2.2.1, h.2.2.2⟩
theorem ord_lefts : ∀ (ss : List SG) (N d : Nat), d + (flatS ss).length = N → Ord N d (leftsS ss 0)
  | [], _, _, _ => trivial
  | (false, t) :: ss, N, d, h => by
    rw [lefts_lit]
    rw [flat_cons, List.length_append] at h
    exact (ord_lefts ss N (d + t.length) (by omega)).mono (by omega)
  | (true, t) :: ss, N, d, h => by
    rw [lefts_val]
    rw [flat_cons, List.length_append] at h
    have e : N - ((t ++ flatS ss).length + 0) = d := by rw [List.length_append]; omega
    refine ⟨by simp only [List.length_append]; omega, by simp only [e]; omega, by simp only [List.length_append]; omega, ?_⟩
    simp only [e]
    exact ord_lefts ss N (d + t.length) (by omega)
theorem find_ord (low : List UInt8 → List UInt8) (b : List UInt8) (l : List LK) (h : findP low b = some l) : Ord b.length 0 l ∧ l.length ≤ 60 ∧ b.length ≤ 4000 := by
  unfold findP at h
  split at h
  · cases h
  · rename_i h4
    obtain ⟨ss, h1, h2, _⟩ := find_seg low b.length [] b l (Nat.le_refl _) h
    rw [List.nil_append] at h2
    refine ⟨by rw [h2]; exact ord_lefts ss b.length 0 (by rw [← h1]; simp), ?_, by omega⟩
    have : ∀ (n : Nat) (acc : List LK) (s : List UInt8) (L : List LK), findF low n acc s = some L → acc.length ≤ 60 → L.length ≤ 60 := by
      intro n
      induction n with
      | zero => intro acc s L h ha; simp only [findF, Option.some.injEq] at h; rw [← h]; exact ha
      | succ n ih =>
        intro acc s L h ha
        rw [findF] at h
        split at h
        · simp only [Option.some.injEq] at h; rw [← h]; exact ha
        · split at h
          · cases h
          · rename_i h60
            exact ih _ _ _ h (by omega)
    exact this _ _ _ _ h (by simp)
end Go.Proofs.YtdlnlepecdcmjaaDoor

/- link's plain, and what filled needs: texts in a row, links in order. -/
namespace Go.Proofs.YtdlnlepecdcmjaaDoor
open Go.RowKit

theorem plain_cons (c : UInt8) (t : List UInt8) : plainT (c :: t) = (okT c && plainT t) := rfl
set_option maxHeartbeats 2000000 in
theorem plain_any (s : ByteArray) (w : World) (hs : s.size ≤ maxLen) :
    Calls Tryd.prog 13 #[.string s] w fun e w' => e = .returned (.bool (plainT s.data.toList)) ∧ w' = w := by
  unfold maxLen at hs
  go_enter Tryd.func13, Tryd.ntmps13
  go_wp2
  go_loop [6] (fun iv => ∃ k : Nat, k ≤ s.size ∧ iv = .int .i64 k ∧ Hid (plainT (s.data.toList.drop k) = plainT s.data.toList)) (fun iv => s.size - (intOf iv).toNat)
  case atStart => exact ⟨0, Nat.zero_le _, rfl, rfl⟩
  case round =>
    obtain ⟨k, hk, rfl, HK⟩ := hrel
    by_cases hlt : k < s.size
    · have hdr : Hid (plainT (s.data.toList.drop k) = (okT s[k] && plainT (s.data.toList.drop (k + 1)))) := by unfold Hid; rw [dropB s k hlt, plain_cons]
      by_cases h1 : s[k].toNat < 33
      · have HN : Hid (plainT s.data.toList = false) := by
          unfold Hid
          rw [← HK.out, hdr.out, show okT s[k] = false from by simp [okT]; omega]; rfl
        have h1' : (s[k].toNat : Int) < 33 := by omega
        clear hdr HK
        go_wp2
        go_ret
        exact ⟨by rw [HN.out]; rfl, rfl⟩
      · have h1' : decide ((s[k].toNat : Int) < 33) = false := by simp; omega
        by_cases h2 : 126 < s[k].toNat
        · have HN : Hid (plainT s.data.toList = false) := by
            unfold Hid
            rw [← HK.out, hdr.out, show okT s[k] = false from by simp [okT]; omega]; rfl
          have h2' : (126 : Int) < (s[k].toNat : Int) := by omega
          clear hdr HK
          go_wp2
          go_ret
          exact ⟨by rw [HN.out]; rfl, rfl⟩
        · have h2' : decide ((126 : Int) < (s[k].toNat : Int)) = false := by simp; omega
          cases h3 : ([34, 39, 60, 62, 38, 61] : List UInt8).contains s[k]
          · have HN : Hid (plainT (s.data.toList.drop (k + 1)) = plainT s.data.toList) := by
              unfold Hid
              rw [← HK.out, hdr.out, show okT s[k] = true from by simp only [okT, h3]; simp; omega]; rfl
            have H3 : Hid (([34, 39, 60, 62, 38, 61] : List UInt8).contains s[k] = false) := h3
            clear hdr HK h3
            go_wp2_with (go_at_call 16; refine (ix_any ⟨#[34, 39, 60, 62, 38, 61]⟩ [34, 39, 60, 62, 38, 61] rfl s[k] _ rfl _).mono ?_; rintro e w' ⟨i, rfl, hi9, hw'⟩; rw [H3.out] at hi9; have hw'' := hw'.symm; subst hw'')
            go_round
            case rel => exact ⟨k + 1, by omega, by go_num, HN⟩
            case measure => simp [intOf]; omega
          · have HN : Hid (plainT s.data.toList = false) := by
              unfold Hid
              rw [← HK.out, hdr.out, show okT s[k] = false from by simp only [okT, h3]; simp]; rfl
            have H3 : Hid (([34, 39, 60, 62, 38, 61] : List UInt8).contains s[k] = true) := h3
            clear hdr HK h3
            go_wp2_with (go_at_call 16; refine (ix_any ⟨#[34, 39, 60, 62, 38, 61]⟩ [34, 39, 60, 62, 38, 61] rfl s[k] _ rfl _).mono ?_; rintro e w' ⟨i, rfl, hi9, hw'⟩; rw [H3.out] at hi9; have hw'' := hw'.symm; subst hw'')
            go_ret
            exact ⟨by rw [HN.out]; rfl, rfl⟩
    · obtain rfl : k = s.size := by omega
      have HN : Hid (plainT s.data.toList = true) := by
        unfold Hid
        rw [← HK.out, List.drop_of_length_le (by rw [← Lib.size_eq]; exact Nat.le_refl _)]; rfl
      clear HK
      go_wp2
      go_ret
      exact ⟨by rw [HN.out]; rfl, rfl⟩
/-- Texts lie behind the address. -/
def TxRow (w : World) (p : Option Addr) (ts : List ByteArray) : Prop := ts ≠ [] → ∃ b o, p = some ⟨b, o, none⟩ ∧ ∀ i, i < ts.length → w.cell? ⟨b, o + i, none⟩ = some (.string (ts.getD i ⟨#[]⟩))
theorem TxRow.below {w w' : World} {p : Option Addr} {ts : List ByteArray} (h : TxRow w p ts) (hb : Below w.heap.size w w') : TxRow w' p ts := by
  intro hne
  obtain ⟨b, o, rfl, hc⟩ := h hne
  refine ⟨b, o, rfl, fun i hi => ?_⟩
  have := hc i hi
  rw [hb.cell (p := ⟨b, o + i, none⟩) (World.block_lt_of_cell? w _ this)]
  exact this
def tls (ts : List ByteArray) : List (List UInt8) := ts.map fun t => t.data.toList
end Go.Proofs.YtdlnlepecdcmjaaDoor

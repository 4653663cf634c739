/- Plain facts: behind the value of each link of a page something is left. No program. -/
import Derived.Test.YtdlnlepecdcmjaaDoorXlinksaysupto8
import Derived.Test.YtdlnlepecdcmjaaDoorXlinksaysupto18
import Derived.Test.YtdlnlepecdcmjaaDoorXlinksaysupto2
import Derived.Test.YtdlnlepecdcmjaaDoorXlinksaysupto17
import Derived.Lib.Overlaps
import Derived.Lib.AppendZerosOnto
import Derived.Laws.CopyOwn
import Derived.Laws.Externs
import Derived.Lib.ConvBytes
import Derived.Shelf.Spec.SlicesInsert
namespace Go.Proofs.YtdlnlepecdcmjaaDoor

theorem val_posL (s : List UInt8) (h : (valP s).2.2 ≠ []) : (valP s).2.1.length + 1 ≤ (valP s).1.length := by
  have h0 : 0 < (valP s).2.2.length := List.length_pos_iff.2 h
  have h1 : (valP s).2.1.length + (valP s).2.2.length ≤ (valP s).1.length := by
    cases s with
    | nil => exact Nat.le_refl _
    | cons c t =>
      simp only [valP]
      split
      · have := congrArg List.length (List.takeWhile_append_dropWhile (p := notQ c) (l := t))
        rw [List.length_append] at this
        simp only [List.length_drop]
        omega
      · have := congrArg List.length (List.takeWhile_append_dropWhile (p := inBare) (l := c :: t))
        rw [List.length_append] at this
        simp only at *
        omega
  omega
theorem attr_posL (s : List UInt8) (x : LK) (h : (attrP s).1 = some x) (hr : (attrP s).2 ≠ []) : x.2.length + 1 ≤ x.1 := by
  unfold attrP at h hr
  cases hd : (((s.drop 1).dropWhile inAttr).dropWhile spB) with
  | nil => rw [hd] at h; cases h
  | cons c t =>
    rw [hd] at h hr
    simp only [behP] at h hr
    split at h
    · rename_i h61
      rw [if_pos h61] at hr
      cases h
      exact val_posL _ hr
    · cases h
theorem tag_leftL (low : List UInt8 → List UInt8) : ∀ (n : Nat) (seen : List (List UInt8)) (s : List UInt8) (l : List LK), (tagF low n seen s).1 = some l → ∀ x ∈ l, x.2.length + 1 ≤ x.1
  | 0, _, _, _, h => by cases h
  | n + 1, seen, s, l, h => by
    unfold tagF at h
    cases hd : s.dropWhile inGap with
    | nil => rw [hd] at h; cases h
    | cons c t =>
      rw [hd] at h
      simp only at h
      split at h
      · cases h; intro x hx; cases hx
      · simp only [Option.map_eq_some_iff] at h
        obtain ⟨l1, h1, rfl⟩ := h
        have hr : (attrP (c :: t)).2 ≠ [] := fun e => by rw [e, tagF_nil] at h1; cases h1
        intro x hx
        rcases List.mem_append.1 hx with hx | hx
        · unfold mineP at hx
          split at hx
          · cases hx
          · rename_i y hy
            split at hx
            · simp at hx
              subst hx
              exact attr_posL _ _ hy hr
            · cases hx
        · exact tag_leftL low n _ _ l1 h1 x hx
theorem piece_leftL (low : List UInt8 → List UInt8) (s : List UInt8) : ∀ x ∈ (pieceP low s).1, x.2.length + 1 ≤ x.1 := by
  unfold pieceP
  split
  · intro x hx; cases hx
  · split
    · intro x hx; cases hx
    · split
      · simp only [tagP]
        cases h : (tagF low ((List.dropWhile inName (List.drop 1 s)).length + 1) [] (List.dropWhile inName (List.drop 1 s))).1 with
        | none => intro x hx; cases hx
        | some l => exact tag_leftL low _ _ _ l h
      · split <;> (intro x hx; cases hx)
theorem find_leftL (low : List UInt8 → List UInt8) : ∀ (n : Nat) (acc : List LK) (s : List UInt8) (L : List LK), findF low n acc s = some L → (∀ x ∈ acc, x.2.length + 1 ≤ x.1) → ∀ x ∈ L, x.2.length + 1 ≤ x.1
  | 0, acc, s, L, h, ha => by simp only [findF, Option.some.injEq] at h; rw [← h]; exact ha
  | n + 1, acc, s, L, h, ha => by
    rw [findF] at h
    split at h
    · simp only [Option.some.injEq] at h; rw [← h]; exact ha
    · split at h
      · cases h
      · refine find_leftL low n _ _ L h (fun x hx => ?_)
        rcases List.mem_append.1 hx with hx | hx
        · exact ha x hx
        · exact piece_leftL low s x hx
theorem findP_leftL (low : List UInt8 → List UInt8) (b : List UInt8) (l : List LK) (h : findP low b = some l) : ∀ x ∈ l, x.2.length + 1 ≤ x.1 := by
  unfold findP at h
  split at h
  · cases h
  · exact find_leftL low _ _ _ l h (fun x hx => by cases hx)
end Go.Proofs.YtdlnlepecdcmjaaDoor

/- The reference's PutIn: plain facts on texts that are put in from the last one on. No program. -/
namespace Go.Proofs.YtdlnlepecdcmjaaDoor

theorem fill_nots (x : LK) (ls : List LK) (s : List UInt8) : fillP (x :: ls) [] s = s := by rw [fillP]; intro _ _ _ _ _ h; cases h
theorem fill_drop : ∀ (l : List LK) (ts : List (List UInt8)) (b : List UInt8) (d : Nat), Ord b.length d l → d ≤ b.length → fillP l ts b = b.take d ++ fillP l ts (b.drop d)
  | [], ts, b, d, _, _ => by rw [fill_end, fill_end, List.take_append_drop]
  | x :: l, [], b, d, _, _ => by rw [fill_nots, fill_nots, List.take_append_drop]
  | x :: l, t :: ts, b, d, h, hd => by
    by_cases ht : t = []
    · subst ht
      rw [fill_keep, fill_keep]
      exact fill_drop l ts b d (h.2.2.2.mono (by have := h.2.1; omega)) hd
    · rw [fill_put _ _ _ _ _ ht, fill_put _ _ _ _ _ ht]
      have h1 := h.1
      have h2 := h.2.1
      rw [List.length_drop, List.drop_drop, show d + (b.length - d - x.1 + x.2.length) = b.length - x.1 + x.2.length from by omega, ← List.append_assoc, ← List.append_assoc]
      congr 2
      have e : b.take (b.length - x.1) = b.take d ++ (b.drop d).take (b.length - x.1 - d) := by
        rw [← List.take_append_drop d (b.take (b.length - x.1)), List.take_take, Nat.min_eq_left h2, List.drop_take]
      rw [e, show b.length - d - x.1 = b.length - x.1 - d from by omega]
theorem fill_some : ∀ (l : List LK) (ts : List (List UInt8)) (s : List UInt8), s ≠ [] → fillP l ts s ≠ []
  | [], ts, s, h => by rw [fill_end]; exact h
  | x :: l, [], s, h => by rw [fill_nots]; exact h
  | x :: l, t :: ts, s, h => by
    by_cases ht : t = []
    · subst ht; rw [fill_keep]; exact fill_some l ts s h
    · rw [fill_put _ _ _ _ _ ht]; simp [ht]
def sumL (ts : List (List UInt8)) : Nat := (ts.map List.length).sum
theorem sumL_cons (t : List UInt8) (ts : List (List UInt8)) : sumL (t :: ts) = t.length + sumL ts := by simp [sumL]
theorem fill_len : ∀ (l : List LK) (ts : List (List UInt8)) (s : List UInt8), (fillP l ts s).length ≤ s.length + sumL ts
  | [], ts, s => by rw [fill_end]; omega
  | x :: l, [], s => by rw [fill_nots]; omega
  | x :: l, t :: ts, s => by
    rw [sumL_cons]
    by_cases ht : t = []
    · subst ht
      rw [fill_keep]
      have := fill_len l ts s
      simp only [List.length_nil]
      omega
    · rw [fill_put _ _ _ _ _ ht]
      have := fill_len l ts (s.drop (s.length - x.1 + x.2.length))
      rw [List.length_drop] at this
      rw [List.length_append, List.length_append, List.length_take]
      omega
theorem sumL_drop (ts : List (List UInt8)) (k : Nat) : sumL (ts.drop k) ≤ sumL ts := by
  induction ts generalizing k with
  | nil => simp [sumL]
  | cons t ts ih =>
    cases k with
    | zero => exact Nat.le_refl _
    | succ k => rw [List.drop_succ_cons, sumL_cons]; have := ih k; omega
theorem ord_drop : ∀ (l : List LK) (N d k : Nat), Ord N d l → ∃ d', Ord N d' (l.drop k)
  | _, _, d, 0, h => ⟨d, h⟩
  | [], _, d, _ + 1, _ => ⟨d, trivial⟩
  | _ :: l, N, _, k + 1, h => ord_drop l N _ k h.2.2.2
/-- One text is put in, those behind it being there already. -/
theorem fill_step (l : List LK) (ts : List (List UInt8)) (b : List UInt8) (hord : Ord b.length 0 l) (hleft : ∀ x ∈ l, x.2.length + 1 ≤ x.1) (k : Nat) (hk : k < l.length) (hk2 : k < ts.length) (ht : ts.getD k [] ≠ []) :
    let X := fillP (l.drop (k + 1)) (ts.drop (k + 1)) b
    let i := b.length - (l.getD k (0, [])).1
    let j := b.length - (l.getD k (0, [])).1 + (l.getD k (0, [])).2.length
    fillP (l.drop k) (ts.drop k) b = X.take i ++ ts.getD k [] ++ X.drop j ∧ j < X.length := by
  obtain ⟨d', ho⟩ := ord_drop l b.length 0 k hord
  have hx : l.getD k (0, []) ∈ l := by rw [List.getD_eq_getElem?_getD, List.getElem?_eq_getElem hk]; exact List.getElem_mem hk
  have hxl := hleft _ hx
  rw [drop_at l k (0, []) hk] at ho ⊢
  rw [drop_at ts k [] hk2]
  generalize l.getD k (0, []) = x at *
  generalize ts.getD k [] = t at *
  have h1 := ho.1
  have hj : b.length - x.1 + x.2.length < b.length := by omega
  have hd := fill_drop (l.drop (k + 1)) (ts.drop (k + 1)) b _ ho.2.2.2 (Nat.le_of_lt hj)
  have hs := fill_some (l.drop (k + 1)) (ts.drop (k + 1)) (b.drop (b.length - x.1 + x.2.length)) (by
    intro e
    have := congrArg List.length e
    rw [List.length_drop] at this
    simp at this
    omega)
  have hl1 : (b.take (b.length - x.1 + x.2.length)).length = b.length - x.1 + x.2.length := by rw [List.length_take]; omega
  intro X i j
  show fillP (x :: l.drop (k + 1)) (t :: ts.drop (k + 1)) b = X.take i ++ t ++ X.drop j ∧ j < X.length
  have eX : X = b.take j ++ fillP (l.drop (k + 1)) (ts.drop (k + 1)) (b.drop j) := hd
  refine ⟨?_, ?_⟩
  · rw [fill_put _ _ _ _ _ ht]
    have e1 : X.take i = b.take i := by
      rw [eX, List.take_append_of_le_length (by rw [hl1]; show b.length - x.1 ≤ _; omega), List.take_take, Nat.min_eq_left (Nat.le_add_right _ _)]
    have e2 : X.drop j = fillP (l.drop (k + 1)) (ts.drop (k + 1)) (b.drop j) := by
      rw [eX, List.drop_append, hl1, Nat.sub_self, List.drop_zero, List.drop_of_length_le (by rw [hl1]; exact Nat.le_refl _), List.nil_append]
    rw [e1, e2]
  · rw [eX, List.length_append, hl1]
    exact Nat.lt_add_of_pos_right (List.length_pos_iff.2 hs)
theorem fill_keepK (l : List LK) (ts : List (List UInt8)) (b : List UInt8) (k : Nat) (hk : k < l.length) (hk2 : k < ts.length) (ht : ts.getD k [] = []) : fillP (l.drop k) (ts.drop k) b = fillP (l.drop (k + 1)) (ts.drop (k + 1)) b := by
  rw [drop_at l k (0, []) hk, drop_at ts k [] hk2, ht, fill_keep]
theorem betw_plain (t : List UInt8) : betw 33 126 [34, 39, 60, 62, 38, 61] t = plainT t := by
  unfold betw plainT
  congr 1
end Go.Proofs.YtdlnlepecdcmjaaDoor

/- slices.Insert and slices.Replace of bytes that the call owns: plain facts, and what comes in. -/
namespace Go.Proofs.YtdlnlepecdcmjaaDoor
open Go.RowKit

/-- What comes in: bytes X that the call owns, at the head of a row; bytes T that were made of a text, elsewhere. -/
structure RepIn (w : World) (base g cap : Nat) (X : List UInt8) (cur : List Value) (vb vc : Nat) (T : List UInt8) : Prop where
  hb : base ≤ g
  hbw : base ≤ w.heap.size
  hg : w.heap[g]? = some (.cells cur.toArray 5 (0, 0))
  hcl : cur.length = cap
  hcm : cap ≤ maxLen
  hX : cur.take X.length = bv X
  hXc : X.length ≤ cap
  hv : ∃ vcur : Array Value, w.heap[vb]? = some (.cells vcur 5 (vcur.size, vcur.size + 1)) ∧ T.length ≤ vcur.size
  hvs : ∀ j v, (bv T)[j]? = some v → w.cell? ⟨vb, 0 + j, none⟩ = some v
  ne : vb ≠ g
  hT : 0 < T.length
  big : X.length + T.length ≤ 140737488355328
def RepPost (w : World) (base : Nat) (R : List UInt8) (e : Ending) (w' : World) : Prop := ∃ g' cap', e = .returned (.slice (some ⟨g', 0, none⟩) R.length cap') ∧ Below base w w' ∧ w'.ownsRow base 5 1 (.slice (some ⟨g', 0, none⟩) R.length cap') R.length (bv R)
theorem RepIn.cell {w : World} {base g cap : Nat} {X : List UInt8} {cur : List Value} {vb vc : Nat} {T : List UInt8} (h : RepIn w base g cap X cur vb vc T) (j : Nat) (v : Value) (hj : (bv X)[j]? = some v) : w.cell? ⟨g, 0 + j, none⟩ = some v := by
  rw [Nat.zero_add, World.cell?, h.hg]
  have : cur[j]? = some v := by
    have hlt : j < X.length := by
      have := (List.getElem?_eq_some_iff.1 hj).1
      rwa [bv_length] at this
    rw [← h.hX, List.getElem?_take_of_lt hlt] at hj
    exact hj
  simpa using this
/-- Two slices in two rows, of which one was made of a text: no overlap. -/
theorem overlaps_P {P : Program} {w : World} (tS tR e : TypeId) (ht : P.underlying tS = some (.slice e)) (hz : ∀ w, (Go.sizeOf e).run P w = .ok 1 w) (a b : Addr) (la ca lb cb : Nat) (hne : a.block ≠ b.block) (A B : Array Value) (ma mb : Nat × Nat) (ha : w.heap[a.block]? = some (.cells A e ma)) (hb : w.heap[b.block]? = some (.cells B e mb))
    (hm : (ma = (0, 0) ∧ mb = (B.size, B.size + 1) ∧ 0 < B.size ∧ b.off < B.size) ∨ (mb = (0, 0) ∧ ma = (A.size, A.size + 1) ∧ 0 < A.size ∧ a.off < A.size)) :
    (Extern.SlicesOverlaps.overlaps #[tS, tS] #[tR] #[.slice (some a) la ca, .slice (some b) lb cb]).run P w = .ok (.bool false) w := by
  have hnb : (a.block != b.block) = true := by simpa using hne
  have hnb' : (a.block == b.block) = false := by simpa using hne
  have hsa : w.shape? a.block = some (e, A.size) := by simp [World.shape?, ha]
  have hsb : w.shape? b.block = some (e, B.size) := by simp [World.shape?, hb]
  delta Extern.SlicesOverlaps.overlaps
  conv => lhs; arg 2; whnf
  have hp : ∀ k : Program → Sem Value, Sem.run P (Sem.program k) w = Sem.run P (k P) w := fun _ => rfl
  have hpb : ∀ (x : TypeDesc) (f : TypeDesc → Sem Value), Sem.bind (pure x) f = f x := fun _ _ => rfl
  rw [hp]
  simp only [Sem.bind, ht, show (#[tS, tS] : Array TypeId)[0] = tS from rfl, hpb]
  rcases hm with ⟨rfl, rfl, hB, ho⟩ | ⟨rfl, rfl, hA, ho⟩
  · have hfa : w.frozen? a = false := by simp [World.frozen?, ha]
    have hfe : w.frozen? { block := a.block, off := A.size } = false := by simp [World.frozen?, ha]
    have hfb : w.frozen? b = false := by simp [World.frozen?, hb]; omega
    obtain ⟨k, hk⟩ : ∃ k, B.size = k + 1 := ⟨B.size - 1, by omega⟩
    rw [hk] at hsb
    simp [hz, hnb, hnb', frozen, noView, viewAt, mayBeOne, stringish, shape, Sem.run, hsa, hsb, hfa, hfe, hfb]
  · have hfb : w.frozen? b = false := by simp [World.frozen?, hb]
    have hfe : w.frozen? { block := b.block, off := B.size } = false := by simp [World.frozen?, hb]
    have hfa : w.frozen? a = false := by simp [World.frozen?, ha]; omega
    obtain ⟨k, hk⟩ : ∃ k, A.size = k + 1 := ⟨A.size - 1, by omega⟩
    rw [hk] at hsa
    simp [hz, hnb, hnb', frozen, noView, viewAt, mayBeOne, stringish, shape, Sem.run, hsa, hsb, hfa, hfe, hfb]
theorem sizeOf_u8 (w : World) : (Go.sizeOf 5).run Tryd.prog w = .ok 1 w := by
  obtain ⟨i0, hi, hz0, hz1, hz2⟩ := info_parts info_u8
  simp [Go.sizeOf, typeInfo, hi, hz1]
theorem take_splice {α : Type} (L cs : List α) (off k : Nat) (h : off + cs.length ≤ L.length) (hk : off + cs.length ≤ k) : (splice L off cs).take k = L.take off ++ (cs ++ (L.drop (off + cs.length)).take (k - (off + cs.length))) := by
  unfold splice
  have h1 : (L.take off).length = off := by rw [List.length_take]; omega
  rw [List.take_append, h1, List.take_of_length_le (by omega), List.take_append, List.take_of_length_le (l := cs) (by omega)]
  congr 3
  omega
theorem size_u8 : (Tryd.prog.info? 5).map (·.size) = some 1 := by kernel_rfl
theorem bv_one (l : List UInt8) : ∀ v ∈ bv l, v.oneCell' = true := by
  intro u hu
  simp only [bv, List.mem_map] at hu
  obtain ⟨c, _, rfl⟩ := hu
  rfl
/-- All is as it was, but for one row. -/
structure Only (g : Nat) (w w' : World) : Prop where
  os : w'.os = w.os
  tape : w'.tape = w.tape
  output : w'.output = w.output
  size : w'.heap.size = w.heap.size
  block : ∀ k, k ≠ g → w'.heap[k]? = w.heap[k]?
theorem Only.refl (g : Nat) (w : World) : Only g w w := ⟨rfl, rfl, rfl, rfl, fun _ _ => rfl⟩
theorem Only.drew (g : Nat) (w : World) : Only g w w.drew := ⟨rfl, rfl, rfl, rfl, fun _ _ => rfl⟩
theorem Only.trans {g : Nat} {w w' w'' : World} (h : Only g w w') (k : Only g w' w'') : Only g w w'' := ⟨k.os.trans h.os, k.tape.trans h.tape, k.output.trans h.output, k.size.trans h.size, fun b hb => (k.block b hb).trans (h.block b hb)⟩
theorem Only.below {g B : Nat} {w w' : World} (h : Only g w w') (hB : B ≤ g) : Below B w w' := ⟨h.os, h.tape, h.output, Nat.le_of_eq h.size.symm, fun k hk => h.block k (by omega)⟩
theorem Only.cell {g : Nat} {w w' : World} (h : Only g w w') (a : Addr) (ha : a.block ≠ g) : w'.cell? a = w.cell? a := World.cell?_of_block (h.block a.block ha)
/-- copy into an owned row, at a place. -/
theorem copyK (w : World) (g off dLen : Nat) (a : Addr) (sLen : Nat) (cur cs : List Value) (hg : w.heap[g]? = some (.cells cur.toArray 5 (0, 0))) (hn : cs.length = Nat.min sLen dLen)
    (hsrc : ∀ j v, cs[j]? = some v → w.cell? (a.add j) = some v) (hfit : off + cs.length ≤ cur.length) (h1 : ∀ v ∈ cs, v.oneCell' = true) :
    ∃ w', (∀ ty dCap sCap, (Builtin.copy_ #[22, 22] ty #[.slice (some ⟨g, off, none⟩) dLen dCap, .slice (some a) sLen sCap]).run Tryd.prog w = .ok (goInt cs.length) w') ∧ w'.heap[g]? = some (.cells (splice cur off cs).toArray 5 (0, 0)) ∧ Only g w w' := by
  refine ⟨w.setRow g (splice cur off cs).toArray, fun ty dCap sCap => ?_, setRow_heap w g _ _ _ _ hg, ⟨rfl, rfl, rfl, by simp [World.setRow], fun k hk => setRow_other w g k _ hk⟩⟩
  have h := run_copy_row (P := Tryd.prog) w 22 22 ty 5 g off dLen dCap a sLen sCap cur.toArray 5 cs Tryd.underlying22 size_u8 hg hn hsrc (by simpa using hfit) h1
  rw [h]
  unfold splice
  simp
end Go.Proofs.YtdlnlepecdcmjaaDoor

/- The walk of the law HeaderBack: it answers true, and nothing that was there is changed. Conditions: the fields and the bytes lie there. -/
import Derived.Test.YtnlnjjcfpbmpmaaDoorHeaded
import Derived.Test.YtnlnjjcfpbmpmaaDoorQConcat
import Derived.Deep.RegionHeld3
namespace Go.Proofs.YtnlnjjcfpbmpmaaDoor
open Go.RowKit

theorem bytes_of (s : ByteArray) (w : World) : ∃ (W1 : World) (cap : Nat), (convert 9 22 (.string s)).run Tryd.prog w = .ok (.slice (some ⟨w.heap.size, 0, none⟩) s.size cap) W1 ∧ Below w.heap.size w W1 ∧ BRow W1 (some ⟨w.heap.size, 0, none⟩) s.data.toList := by
  refine ⟨_, _, run_bytes_of_string (P := Tryd.prog) w 9 22 5 s Tryd.underlying9 Tryd.underlying22 Tryd.underlying5, ((Below.refl _ _).drew).alloc (Nat.le_refl _) _, fun _ => ⟨w.heap.size, 0, rfl, fun i hi => ?_⟩⟩
  have hi' : i < s.data.size := by simpa using hi
  rw [Nat.zero_add]
  refine (World.cell?_alloc_mark w.drew _ _ _ i).trans ?_
  unfold bytesRow
  rw [Array.getElem?_append_left (by simpa using hi')]
  simp [List.getD_eq_getElem?_getD, Array.getElem?_eq_getElem hi']

/-- What Parse leaves, as fields of their own. -/
structure Read (w : World) (L : List UInt8) (e : Ending) (w' : World) (p : Option Addr) (c : Nat) (fs : List FV) (K E : Nat) : Prop where
  he : e = .returned (.tuple #[.slice p fs.length c, .int .i64 (K : Int), .int .i64 (E : Int)])
  out : parseF L = (fs.map fl, K, E)
  below : Below w.heap.size w w'
  row : FRow w' p fs
  len : FLen fs
  cap : fs.length ≤ c
  capm : c ≤ maxLen
theorem read_of {w w' : World} {L : List UInt8} {e : Ending} (h : FReadPost w (parseF L) e w') : ∃ p c fs K E, Read w L e w' p c fs K E := by
  obtain ⟨hb, p, c, fs, he, hm, h1, h2, hr, hl⟩ := h
  exact ⟨p, c, fs, _, _, he, by rw [hm], hb, hr, hl, h1, h2⟩

/-- What is told of fields that were read: they are right ones, and what is printed of them is read. -/
theorem read_right {L : List UInt8} {fs : List FV} {K : Nat} (h : parseF L = (fs.map fl, K, 0)) : checkV fs = 0 ∧ fs.length ≤ 20 ∧ K ≤ L.length ∧ L.length ≤ 40000 ∧ parseF (textV fs) = (fs.map fl, (textV fs).length, 0) ∧ ∀ more : List UInt8, more.length ≤ 1000 → parseF (L.take K ++ more) = (fs.map fl, K, 0) ∨ parseF (L.take K ++ more) = ([], 0, 2) := by
  obtain ⟨h1, h2, h3⟩ := parseF_more L _ K h
  have h4 : checkV fs = 0 := by rw [← check_mapH]; exact h1
  have h5 : L.length ≤ 40000 := by
    unfold parseF at h
    split at h
    · exact absurd (Prod.mk.inj (Prod.mk.inj h).2).2 (by decide)
    · omega
  refine ⟨h4, ?_, h2, h5, parseF_text _ h1, fun more hm => ?_⟩
  · have := (checkF_facts h1).1
    simpa using this
  · by_cases hk : K + more.length ≤ 40000
    · exact .inl (h3 more hk)
    · right
      rw [parseF, if_pos (by rw [List.length_append, List.length_take]; omega)]

theorem read_err {L : List UInt8} {fs : List FV} {K E : Nat} (h : parseF L = (fs.map fl, K, E)) : E = 0 ∨ E = 1 ∨ E = 2 := by
  have key : ∀ (g : Nat) (r : List UInt8) (at_ : Nat) (gs : List Fld), (parseGo g r at_ gs).2.2 = 0 ∨ (parseGo g r at_ gs).2.2 = 1 ∨ (parseGo g r at_ gs).2.2 = 2 := by
    intro g
    induction g with
    | zero => intro r at_ gs; rw [parseGo]; exact .inr (.inl rfl)
    | succ g ih =>
      intro r at_ gs
      rw [parseGo]
      split
      · exact .inr (.inl rfl)
      · split
        · split
          · exact .inl rfl
          · unfold checkF; split
            · exact .inr (.inr rfl)
            · split
              · exact .inl rfl
              · exact .inr (.inl rfl)
        · split
          · rename_i e he
            unfold addLine at he
            split at he
            · split at he
              · cases he; exact .inr (.inl rfl)
              · cases he
            · split at he
              · cases he; exact .inr (.inl rfl)
              · split at he
                · cases he; exact .inr (.inr rfl)
                · cases he
          · exact ih _ _ _
  unfold parseF at h
  split at h
  · exact .inr (.inr (Prod.mk.inj (Prod.mk.inj h).2).2.symm)
  · have := key (L.length + 1) L 0 []
    rw [h] at this
    exact this

/-- The law's first part, where the fields can be printed: they are read again. -/
theorem textV_size (fs : List FV) (h : checkV fs = 0) : (textV fs).length ≤ 20000 := by
  rcases checkV_cases fs with ⟨_, h20, ho⟩ | h' | h'
  · have h2 : (fs.map fl).all okF = true := by rw [List.all_map]; exact ho
    have := textF_le (fs.map fl) h2
    rw [List.length_map] at this
    show (textF (fs.map fl)).length ≤ _
    omega
  · omega
  · omega

theorem take_brow {w : World} {p : Option Addr} {l : List UInt8} (h : BRow w p l) (k : Nat) : BRow w p (l.take k) := h.take k

/-- The two pieces, one behind the other, in new memory. -/
theorem hcat_in (w W : World) (g : Nat) (p q : Option Addr) (n k c d : Nat) (X Y : List UInt8) (en : n = X.length) (ek : k = Y.length) (h : n + k ≤ 50000) (hr : BRow w p X) (hr2 : BRow w q Y) (hp : p = none → n = 0 ∧ c = 0) (hq : q = none → k = 0 ∧ d = 0)
    (h1 : W.cell? ⟨g, 0, none⟩ = some (.slice p n c)) (h2 : W.cell? ⟨g, 1, none⟩ = some (.slice q k d)) (hW : Below w.heap.size w W) :
    Calls Tryd.prog 26 #[.slice (some ⟨g, 0, none⟩) 2 2] W fun e w' => ∃ p' N c', e = .returned (.slice p' N c') ∧ Below w.heap.size w w' ∧ Hid (N = (X ++ Y).length ∧ (p' = none → N = 0 ∧ c' = 0) ∧ BRow w' p' (X ++ Y)) := by
  refine (concat_two g p q n k c d X Y en ek W h1 h2 (hr.below hW) (hr2.below hW) hp hq h).mono ?_
  rintro e w' ⟨hb, p', c', rfl, k1, k2, hr', k3⟩
  exact ⟨p', n + k, c', rfl, hW.trans (hb.mono hW.size), by rw [List.length_append, en, ek], k3, hr'⟩

/-- What is behind the fields does not matter, or is too long. -/
theorem hmore_in (w0 W : World) (p' : Option Addr) (N c' : Nat) (Lb more : List UInt8) (fs : List FV) (K : Nat) (h0 : parseF Lb = (fs.map fl, K, 0)) (hm : more.length ≤ 1000)
    (H : Hid (N = (Lb.take K ++ more).length ∧ (p' = none → N = 0 ∧ c' = 0) ∧ BRow W p' (Lb.take K ++ more))) (hW : Below w0.heap.size w0 W) :
    Calls Tryd.prog 28 #[.slice p' N c'] W fun e w' => ∃ p7 n7 c7 K7 E7, e = .returned (.tuple #[.slice p7 n7 c7, .int .i64 K7, .int .i64 E7]) ∧ Below w0.heap.size w0 w' ∧ Hid (E7 = 2 ∨ E7 = 0 ∧ K7 = (K : Int) ∧ n7 = fs.length ∧ FRow w' p7 fs) := by
  refine (hparse_any p' N c' _ H.out.1 W H.out.2.1 H.out.2.2).mono ?_
  intro e w' hpost
  obtain ⟨p7, c7, fs7, K7, E7, R7⟩ := read_of hpost
  refine ⟨p7, _, c7, _, _, R7.he, hW.trans (R7.below.mono hW.size), ?_⟩
  have ho := R7.out
  rcases (read_right h0).2.2.2.2.2 more hm with h | h
  · rw [h] at ho
    have a := of_fl (Prod.mk.inj ho).1.symm
    have b := of_fl (rfl : fs.map fl = fs.map fl)
    have e1 : fs7 = fs := by rw [a, ← b]
    refine .inr ⟨?_, ?_, by rw [e1], by rw [← e1]; exact R7.row⟩
    · rw [← (Prod.mk.inj (Prod.mk.inj ho).2).2]; rfl
    · rw [← (Prod.mk.inj (Prod.mk.inj ho).2).1]
  · rw [h] at ho
    left
    rw [← (Prod.mk.inj (Prod.mk.inj ho).2).2]
    rfl

/-- What is printed of right fields. -/
theorem hprint_right (w0 W : World) (p : Option Addr) (c : Nat) (fs : List FV) (T : ByteArray) (hT : T = ba (textV fs)) (hk : checkV fs = 0) (hl : FLen fs) (h20 : fs.length ≤ 20) (hr : FRow W p fs) (hW : Below w0.heap.size w0 W) :
    Calls Tryd.prog 27 #[.slice p fs.length c] W fun e w' => e = .returned (.tuple #[.string T, .int .i64 0]) ∧ Below w0.heap.size w0 w' ∧ Below W.heap.size W w' := by
  have CP := hprint_any p fs.length c fs rfl W (by unfold maxLen; omega) hl hr
  rw [hk, printV, if_pos hk] at CP
  refine CP.mono ?_
  rintro e w' ⟨rfl, hb⟩
  exact ⟨by rw [hT]; rfl, hW.trans (hb.mono hW.size), hb⟩

/-- What was printed is read. -/
theorem htext_in (w0 W : World) (a : Addr) (cap : Nat) (fs : List FV) (T : ByteArray) (hT : T = ba (textV fs)) (hk : checkV fs = 0) (hr : BRow W (some a) T.data.toList) (hW : Below w0.heap.size w0 W) :
    Calls Tryd.prog 28 #[.slice (some a) T.size cap] W fun e w' => ∃ p9 c9, e = .returned (.tuple #[.slice p9 fs.length c9, .int .i64 (T.size : Int), .int .i64 0]) ∧ Below w0.heap.size w0 w' ∧ Below W.heap.size W w' ∧ Hid (FRow w' p9 fs) := by
  have hd : T.data.toList = textV fs := by rw [hT]; rfl
  refine (hparse_any _ _ _ T.data.toList (by rw [Lib.size_eq]) W (fun h => by cases h) hr).mono ?_
  intro e w' hpost
  obtain ⟨p9, c9, fs9, K9, E9, R9⟩ := read_of hpost
  have ho := R9.out
  have ht : parseF (textV fs) = (fs.map fl, (textV fs).length, 0) := parseF_text (fs.map fl) (by rw [check_mapH]; exact hk)
  rw [hd, ht] at ho
  have a1 := of_fl (Prod.mk.inj ho).1.symm
  have b1 := of_fl (rfl : fs.map fl = fs.map fl)
  obtain rfl : fs9 = fs := by rw [a1, ← b1]
  have e1 : (K9 : Int) = (T.size : Int) := by rw [Lib.size_eq, hd, ← (Prod.mk.inj (Prod.mk.inj ho).2).1]
  have e2 : (E9 : Int) = 0 := by rw [← (Prod.mk.inj (Prod.mk.inj ho).2).2]; rfl
  refine ⟨p9, c9, by rw [R9.he, e1, e2], hW.trans (R9.below.mono hW.size), R9.below, R9.row⟩
end Go.Proofs.YtnlnjjcfpbmpmaaDoor

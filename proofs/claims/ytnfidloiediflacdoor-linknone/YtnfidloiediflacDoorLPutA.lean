/- link's plain, and what filled needs: texts in a row, links in order. -/
import Derived.Test.YtnfidloiediflacDoorLFind
import Derived.Test.YtnfidloiediflacDoorLFill
import Derived.Lib.AppendStr
namespace Go.Proofs.YtnfidloiediflacDoor
open Go.RowKit

theorem plain_cons (c : UInt8) (t : List UInt8) : plainT (c :: t) = (okT c && plainT t) := rfl
set_option maxHeartbeats 2000000 in
theorem plain_any (s : ByteArray) (w : World) (hs : s.size ≤ maxLen) :
    Calls Tryd.prog 14 #[.string s] w fun e w' => e = .returned (.bool (plainT s.data.toList)) ∧ w' = w := by
  unfold maxLen at hs
  go_enter Tryd.func14, Tryd.ntmps14
  go_wp2
  go_loop [6] (fun iv => ∃ k : Nat, k ≤ s.size ∧ iv = .int .i64 k ∧ Hid (plainT (s.data.toList.drop k) = plainT s.data.toList)) (fun iv => s.size - (intOf iv).toNat)
  case atStart => exact ⟨0, Nat.zero_le _, rfl, rfl⟩
  case round =>
    obtain ⟨k, hk, rfl, HK⟩ := hrel
    by_cases hlt : k < s.size
    · have hdr : Hid (plainT (s.data.toList.drop k) = (okT s[k] && plainT (s.data.toList.drop (k + 1)))) := by unfold Hid; rw [dropB s k hlt, plain_cons]
      by_cases h1 : s[k].toNat < 33
      · have HN : Hid (plainT s.data.toList = false) := by
          unfold Hid
          rw [← HK.out, hdr.out, show okT s[k] = false from by simp [okT]; omega]; rfl
        have h1' : (s[k].toNat : Int) < 33 := by omega
        clear hdr HK
        go_wp2
        go_ret
        exact ⟨by rw [HN.out]; rfl, rfl⟩
      · have h1' : decide ((s[k].toNat : Int) < 33) = false := by simp; omega
        by_cases h2 : 126 < s[k].toNat
        · have HN : Hid (plainT s.data.toList = false) := by
            unfold Hid
            rw [← HK.out, hdr.out, show okT s[k] = false from by simp [okT]; omega]; rfl
          have h2' : (126 : Int) < (s[k].toNat : Int) := by omega
          clear hdr HK
          go_wp2
          go_ret
          exact ⟨by rw [HN.out]; rfl, rfl⟩
        · have h2' : decide ((126 : Int) < (s[k].toNat : Int)) = false := by simp; omega
          cases h3 : ([34, 39, 60, 62, 38, 61] : List UInt8).contains s[k]
          · have HN : Hid (plainT (s.data.toList.drop (k + 1)) = plainT s.data.toList) := by
              unfold Hid
              rw [← HK.out, hdr.out, show okT s[k] = true from by simp only [okT, h3]; simp; omega]; rfl
            have H3 : Hid (([34, 39, 60, 62, 38, 61] : List UInt8).contains s[k] = false) := h3
            clear hdr HK h3
            go_wp2_with (go_at_call 22; refine (ix_any ⟨#[34, 39, 60, 62, 38, 61]⟩ [34, 39, 60, 62, 38, 61] rfl s[k] _ rfl _).mono ?_; rintro e w' ⟨i, rfl, hi9, hw'⟩; rw [H3.out] at hi9; have hw'' := hw'.symm; subst hw'')
            go_round
            case rel => exact ⟨k + 1, by omega, by go_num, HN⟩
            case measure => simp [intOf]; omega
          · have HN : Hid (plainT s.data.toList = false) := by
              unfold Hid
              rw [← HK.out, hdr.out, show okT s[k] = false from by simp only [okT, h3]; simp]; rfl
            have H3 : Hid (([34, 39, 60, 62, 38, 61] : List UInt8).contains s[k] = true) := h3
            clear hdr HK h3
            go_wp2_with (go_at_call 22; refine (ix_any ⟨#[34, 39, 60, 62, 38, 61]⟩ [34, 39, 60, 62, 38, 61] rfl s[k] _ rfl _).mono ?_; rintro e w' ⟨i, rfl, hi9, hw'⟩; rw [H3.out] at hi9; have hw'' := hw'.symm; subst hw'')
            go_ret
            exact ⟨by rw [HN.out]; rfl, rfl⟩
    · obtain rfl : k = s.size := by omega
      have HN : Hid (plainT s.data.toList = true) := by
        unfold Hid
        rw [← HK.out, List.drop_of_length_le (by rw [← Lib.size_eq]; exact Nat.le_refl _)]; rfl
      clear HK
      go_wp2
      go_ret
      exact ⟨by rw [HN.out]; rfl, rfl⟩
/-- Texts lie behind the address. -/
def TxRow (w : World) (p : Option Addr) (ts : List ByteArray) : Prop := ts ≠ [] → ∃ b o, p = some ⟨b, o, none⟩ ∧ ∀ i, i < ts.length → w.cell? ⟨b, o + i, none⟩ = some (.string (ts.getD i ⟨#[]⟩))
theorem TxRow.below {w w' : World} {p : Option Addr} {ts : List ByteArray} (h : TxRow w p ts) (hb : Below w.heap.size w w') : TxRow w' p ts := by
  intro hne
  obtain ⟨b, o, rfl, hc⟩ := h hne
  refine ⟨b, o, rfl, fun i hi => ?_⟩
  have := hc i hi
  rw [hb.cell (p := ⟨b, o + i, none⟩) (World.block_lt_of_cell? w _ this)]
  exact this
def tls (ts : List ByteArray) : List (List UInt8) := ts.map fun t => t.data.toList
/-- Links lie behind the address. -/
def KRow (w : World) (p : Option Addr) (N : Nat) (l : List LK) : Prop := l ≠ [] → ∃ b, p = some ⟨b, 0, none⟩ ∧ ∀ i, i < l.length → w.cell? ⟨b, i * 3, none⟩ = some (.int .i64 ((N - (l.getD i (0, [])).1 : Nat) : Int)) ∧ w.cell? ⟨b, i * 3 + 1, none⟩ = some (.int .i64 ((N - (l.getD i (0, [])).1 + (l.getD i (0, [])).2.length : Nat) : Int)) ∧ w.cell? ⟨b, i * 3 + 2, none⟩ = some (.string (lba (unamp (l.getD i (0, [])).2)))
theorem KRow.below {w w' : World} {p : Option Addr} {N : Nat} {l : List LK} (h : KRow w p N l) (hb : Below w.heap.size w w') : KRow w' p N l := by
  intro hne
  obtain ⟨b, rfl, hc⟩ := h hne
  refine ⟨b, rfl, fun i hi => ?_⟩
  obtain ⟨c0, c1, c2⟩ := hc i hi
  have hlt := World.block_lt_of_cell? w _ c0
  exact ⟨(hb.cell (p := ⟨b, i * 3, none⟩) hlt).trans c0, (hb.cell (p := ⟨b, i * 3 + 1, none⟩) hlt).trans c1, (hb.cell (p := ⟨b, i * 3 + 2, none⟩) hlt).trans c2⟩
theorem lv_get (N : Nat) : ∀ (l : List LK) (i : Nat), i < l.length → (lv N l)[i * 3]? = some (.int .i64 ((N - (l.getD i (0, [])).1 : Nat) : Int)) ∧ (lv N l)[i * 3 + 1]? = some (.int .i64 ((N - (l.getD i (0, [])).1 + (l.getD i (0, [])).2.length : Nat) : Int)) ∧ (lv N l)[i * 3 + 2]? = some (.string (lba (unamp (l.getD i (0, [])).2)))
  | [], i, h => by simp at h
  | x :: l, 0, _ => by simp [lv, lkv]
  | x :: l, i + 1, h => by
    have e : lv N (x :: l) = (lkv N x).toList ++ lv N l := by simp [lv]
    have hl : (lkv N x).toList.length = 3 := by simp [lkv]
    have := lv_get N l i (by simpa using h)
    have e1 : ∀ j, ((lkv N x).toList ++ lv N l)[(i + 1) * 3 + j]? = (lv N l)[i * 3 + j]? := fun j => by
      rw [List.getElem?_append_right (by rw [hl]; omega), hl, show (i + 1) * 3 + j - 3 = i * 3 + j from by omega]
    have e0 := e1 0
    simp only [Nat.add_zero] at e0
    rw [e, e0, e1 1, e1 2]
    simpa using this
theorem owned_links {w : World} {B N : Nat} {v : Value} {l : List LK} (h : w.ownsRow B 32 3 v l.length (lv N l)) : ∃ p c, v = .slice p l.length c ∧ l.length ≤ c ∧ c ≤ maxLen ∧ (p = none → l.length = 0 ∧ c = 0) ∧ KRow w p N l := by
  have hcl := fun g hg => h.cells (g := g) hg
  rcases h.2 with ⟨rfl, h0⟩ | ⟨g, cap, cur, rfl, _, _, hn, hm, _, _⟩
  · exact ⟨none, 0, by rw [h0], by omega, by decide, fun _ => ⟨h0, rfl⟩, fun hne => absurd (List.length_eq_zero_iff.1 h0) hne⟩
  · refine ⟨some ⟨g, 0, none⟩, cap, rfl, hn, hm, (fun h => by cases h), fun hne => ⟨g, rfl, fun i hi => ?_⟩⟩
    obtain ⟨c0, c1, c2⟩ := lv_get N l i hi
    have k0 := hcl g rfl (i * 3) _ c0
    have k1 := hcl g rfl (i * 3 + 1) _ c1
    have k2 := hcl g rfl (i * 3 + 2) _ c2
    rw [Addr.add_lit, Nat.zero_add] at k0 k1 k2
    exact ⟨k0, k1, k2⟩
/-- Links in order, behind a place. -/
def Ord (N : Nat) : Nat → List LK → Prop
  | _, [] => True
  | d, x :: ls => x.1 ≤ N ∧ d ≤ N - x.1 ∧ x.2.length ≤ x.1 ∧ Ord N (N - x.1 + x.2.length) ls
theorem Ord.mono {N : Nat} : ∀ {l : List LK} {d d' : Nat}, Ord N d l → d' ≤ d → Ord N d' l
  | [], _, _, _, _ => trivial
  | _ :: _, _, _, h, hd => ⟨h.1, Nat.le_trans hd h.2.1, h.2.2.1, h.2.2.2⟩
theorem ord_lefts : ∀ (ss : List SG) (N d : Nat), d + (flatS ss).length = N → Ord N d (leftsS ss 0)
  | [], _, _, _ => trivial
  | (false, t) :: ss, N, d, h => by
    rw [lefts_lit]
    rw [flat_cons, List.length_append] at h
    exact (ord_lefts ss N (d + t.length) (by omega)).mono (by omega)
  | (true, t) :: ss, N, d, h => by
    rw [lefts_val]
    rw [flat_cons, List.length_append] at h
    have e : N - ((t ++ flatS ss).length + 0) = d := by rw [List.length_append]; omega
    refine ⟨by simp only [List.length_append]; omega, by simp only [e]; omega, by simp only [List.length_append]; omega, ?_⟩
    simp only [e]
    exact ord_lefts ss N (d + t.length) (by omega)
theorem find_ord (low : List UInt8 → List UInt8) (b : List UInt8) (l : List LK) (h : findP low b = some l) : Ord b.length 0 l ∧ l.length ≤ 60 ∧ b.length ≤ 4000 := by
  unfold findP at h
  split at h
  · cases h
  · rename_i h4
    obtain ⟨ss, h1, h2, _⟩ := find_seg low b.length [] b l (Nat.le_refl _) h
    rw [List.nil_append] at h2
    refine ⟨by rw [h2]; exact ord_lefts ss b.length 0 (by rw [← h1]; simp), ?_, by omega⟩
    have : ∀ (n : Nat) (acc : List LK) (s : List UInt8) (L : List LK), findF low n acc s = some L → acc.length ≤ 60 → L.length ≤ 60 := by
      intro n
      induction n with
      | zero => intro acc s L h ha; simp only [findF, Option.some.injEq] at h; rw [← h]; exact ha
      | succ n ih =>
        intro acc s L h ha
        rw [findF] at h
        split at h
        · simp only [Option.some.injEq] at h; rw [← h]; exact ha
        · split at h
          · cases h
          · rename_i h60
            exact ih _ _ _ h (by omega)
    exact this _ _ _ _ h (by simp)
end Go.Proofs.YtnfidloiediflacDoor

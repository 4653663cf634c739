/- part.appendPlaces behind places that the caller owns: what the plain function says; what the caller does not own is as it was. Conditions: the part lies there; the places' parts lie there. -/
import Derived.Test.YtlndhdimamnnlaaGreatDoorXmimewrapsupto6
import Derived.Test.YtlndhdimamnnlaaGreatDoorXmimewrapsupto4
import Derived.Test.YtlndhdimamnnlaaGreatDoorXmimewrapsupto1
import Derived.Test.YtlndhdimamnnlaaGreatDoorXmimewrapsupto5
namespace Go.Proofs.YtlndhdimamnnlaaGreatDoor
open Go.RowKit

/-- Places as they lie in memory: addresses, numbers. -/
abbrev PX := (Nat × Nat) × Int
def plv (X : List PX) : List Value := X.flatMap fun x => [.pointer (some ⟨x.1.1, x.1.2, none⟩), .int .i64 x.2]
theorem plv_length : ∀ X : List PX, (plv X).length = X.length * 2
  | [] => rfl
  | x :: X => by show ([_, _] ++ plv X).length = _; rw [List.length_append, plv_length X]; simp; omega
theorem plv_snoc (X : List PX) (x : PX) : plv (X ++ [x]) = plv X ++ [.pointer (some ⟨x.1.1, x.1.2, none⟩), .int .i64 x.2] := by simp [plv]
/-- These places are those of the plain list. -/
def PLs (w : World) (X : List PX) (L : List (PT × Int)) : Prop :=
  X.length = L.length ∧ ∀ (i : Nat) x q, X[i]? = some x → L[i]? = some q → x.2 = q.2 ∧ ∃ f, PAt w f x.1.1 x.1.2 q.1
theorem PLs.nil (w : World) : PLs w [] [] := ⟨rfl, fun i x q h => by simp at h⟩
theorem PLs.snoc {w : World} {X : List PX} {L : List (PT × Int)} (h : PLs w X L) {b o : Nat} {p : PT} {k : Int} {f : Nat} (hp : PAt w f b o p) : PLs w (X ++ [((b, o), k)]) (L ++ [(p, k)]) := by
  refine ⟨by rw [List.length_append, List.length_append, h.1]; rfl, fun i x q hx hq => ?_⟩
  by_cases hi : i < X.length
  · rw [List.getElem?_append_left hi] at hx
    rw [List.getElem?_append_left (by rw [← h.1]; exact hi)] at hq
    exact h.2 i x q hx hq
  · rw [List.getElem?_append_right (by omega)] at hx
    rw [List.getElem?_append_right (by rw [← h.1]; omega), ← h.1] at hq
    cases hd : i - X.length with
    | zero =>
      rw [hd] at hx hq
      obtain rfl := Option.some.inj hx
      obtain rfl := Option.some.inj hq
      exact ⟨rfl, f, hp⟩
    | succ n => rw [hd] at hx; simp at hx

theorem info_place : (Tryz.prog.info? 130).map (fun i => (i.zero, i.size, i.bytes)) = some (some (.agg #[.pointer none, .int .i64 0]), 2, 16) := by kernel_rfl

/-- What is owned is a slice of so many. -/
theorem owned_slice {w : World} {B e s n : Nat} {v : Value} {xs : List Value} (h : w.ownsRow B e s v n xs) : ∃ p c, v = .slice p n c := by
  rcases h.2 with ⟨rfl, rfl⟩ | ⟨g, cap, cur, rfl, _⟩
  · exact ⟨none, 0, rfl⟩
  · exact ⟨_, _, rfl⟩

def PlacesPost (w0 : World) (r : Option (List (PT × Int))) (e : Ending) (w' : World) : Prop :=
  Below w0.heap.size w0 w' ∧ match r with
  | none => e = .returned (.tuple #[.slice none 0 0, .bool false])
  | some M => ∃ v X, e = .returned (.tuple #[v, .bool true]) ∧ w'.ownsRow w0.heap.size 130 2 v M.length (plv X) ∧ PLs w0 X M

set_option maxHeartbeats 1000000 in
set_option maxRecDepth 100000 in
/-- part.appendPlaces. -/
theorem places_any (w0 : World) : ∀ (f : Nat) (F : Nat) (lv : Value) (X : List PX) (L : List (PT × Int)) (b o : Nat) (p : PT) (depth : Nat) (dd inn : Int) (w : World), f ≤ 3 → f + depth = 4 → dd = (depth : Int) → L.length ≤ 12 →
    Below w0.heap.size w0 w → w.ownsRow w0.heap.size 130 2 lv L.length (plv X) → PLs w0 X L → PAt w0 F b o p →
    Calls Tryz.prog 100 #[lv, .pointer (some ⟨b, o, none⟩), .int .i64 dd, .int .i64 inn] w fun e w' => PlacesPost w0 (put (f + 1) L p depth inn) e w' := by
  intro f
  induction f with
  | zero =>
    intro F lv X L b o p depth dd inn w _ hfd hdd hL hbel hown hX hP
    obtain ⟨q, c, rfl⟩ := owned_slice hown
    have HR : Hid (put (0 + 1) L p depth inn = none) := put_stop _ _ _ _ _ (.inr (by omega))
    have h3 : (3 : Int) < dd := by omega
    generalize L.length = n at *
    clear hdd hown hX hP
    go_enter Tryz.func100, Tryz.ntmps100
    by_cases h12 : n = 12
    · subst h12
      go_wp2_with fail
      go_ret2
      show PlacesPost _ _ _ _
      rw [HR.out]
      exact ⟨hbel, rfl⟩
    · have h12' : ((n : Int) == 12) = false := by rw [beq_eq_false_iff_ne]; omega
      go_wp2_with fail
      go_ret2
      show PlacesPost _ _ _ _
      rw [HR.out]
      exact ⟨hbel, rfl⟩
  | succ f ih =>
    intro F lv X L b o p depth dd inn w hf3 hfd hdd hL hbel hown hX hP
    by_cases h12 : L.length = 12
    · obtain ⟨q, c, rfl⟩ := owned_slice hown
      have HR : Hid (put (f + 1 + 1) L p depth inn = none) := put_stop _ _ _ _ _ (.inl h12)
      rw [h12]
      clear hdd hown hX hP ih h12
      go_enter Tryz.func100, Tryz.ntmps100
      go_wp2_with fail
      go_ret2
      show PlacesPost _ _ _ _
      rw [HR.out]
      exact ⟨hbel, rfl⟩
    · have HR : Hid (put (f + 1 + 1) L p depth inn = putAll (f + 1) (depth + 1) L.length (L ++ [(p, inn)]) p.kids) := put_go _ _ _ _ _ (by omega)
      obtain ⟨i0, hi, hz0, hz1, hz2⟩ := info_parts info_place
      have hPw := hP.below hbel
      obtain ⟨pb, cb, pk, ck, hC, hH⟩ := hPw
      obtain ⟨pb', cb', pk', ck', hC', hH'⟩ := hP
      have hsz := hbel.size
      obtain ⟨q, c, rfl⟩ := owned_slice hown
      have h12' : ((L.length : Int) == 12) = false := by rw [beq_eq_false_iff_ne]; omega
      have h3 : ¬ ((3 : Int) < dd) := by omega
      have hKl : p.kids.length ≤ 9223372036854775807 := by have := hH.1.2.2.2.2.2.2.2; unfold maxLen at this; exact this
      -- what lies there in every later world
      have HC : Hid (∀ w', Below w0.heap.size w0 w' → w'.cell? ⟨b, o + 6, none⟩ = some (.slice pk' p.kids.length ck')) := fun w' hb => (hC'.below hb).2.2.2.2.2.2
      have HK : Hid (p.kids ≠ [] → ∃ F' b' o', F = F' + 1 ∧ pk' = some ⟨b', o', none⟩ ∧ ∀ i, i < p.kids.length → PAt w0 F' b' (o' + i * 7) (p.kids.getD i pt0)) := fun hne => by
        have hk : KAt w0 F pk' p.kids := hH'.2.2.2.2
        cases F with
        | zero => exact absurd hk hne
        | succ F' =>
          obtain ⟨b', o', e1, e2⟩ := hk.each hne
          exact ⟨F', b', o', rfl, e1, e2⟩
      have HX2 : Hid (PLs w0 (X ++ [((b, o), inn)]) (L ++ [(p, inn)])) := hX.snoc ⟨pb', cb', pk', ck', hC', hH'⟩
      have IH : Hid (∀ (lv : Value) (X : List PX) (M : List (PT × Int)) (b o F : Nat) (k : PT) (w : World), M.length ≤ 12 → Below w0.heap.size w0 w → w.ownsRow w0.heap.size 130 2 lv M.length (plv X) → PLs w0 X M → PAt w0 F b o k →
          Calls Tryz.prog 100 #[lv, .pointer (some ⟨b, o, none⟩), .int .i64 (dd + 1), .int .i64 (L.length : Int)] w fun e w' => PlacesPost w0 (put (f + 1) M k (depth + 1) (L.length : Int)) e w') :=
        fun lv X M b o F k w h1 h2 h3 h4 h5 => ih F lv X M b o k (depth + 1) (dd + 1) (L.length : Int) w (by omega) (by omega) (by omega) h1 h2 h3 h4 h5
      have hd4 : dd ≤ 3 := by omega
      have hd0 : 0 ≤ dd := by omega
      have HL12 : Hid (L.length < 12) := by unfold Hid; omega
      generalize hRES : put (f + 1 + 1) L p depth inn = RES at *
      clear ih hC hH hC' hH' hX hdd hRES
      go_enter Tryz.func100, Tryz.ntmps100
      go_wp2_with (at_builtin; refine wpList_append_own _ rfl (.tmp 22) (.tmp 26) 86 rfl w0.heap.size 130 i0 (.agg #[.pointer none, .int .i64 0]) 2 16 Tryz.underlying86 hi hz0 hz1 hz2 rfl (by decide) _ _ _ rfl (hown.alloc _) ⟨w.heap.size, 0, none⟩ 1 1 [.pointer (some ⟨b, o, none⟩), .int .i64 inn] rfl rfl (cell_two _ _ _ _) ?c2 ?c3 ?c4 ?c5 ?_)
      case c2 => first | exact ⟨rfl, rfl⟩ | (intro u hu; simp at hu; rcases hu with rfl | rfl <;> rfl)
      case c3 => unfold maxLen; omega
      case c4 => omega
      case c5 => first | omega | (simp; omega)
      intro v9 w9 hown9 hg9 _
      have hb9 : Below w0.heap.size w0 w9 := (hbel.alloc hsz _).grown hg9 (by simp; omega) (fun j hj => (hown.lt j hj).1)
      have R9 : w9.ownsRow w0.heap.size 130 2 v9 (L ++ [(p, inn)]).length (plv (X ++ [((b, o), inn)])) := by rw [plv_snoc, List.length_append]; exact hown9
      have HO : Hid (w9.ownsRow w0.heap.size 130 2 v9 (L ++ [(p, inn)]).length (plv (X ++ [((b, o), inn)]))) := R9
      have HM : Hid ((L ++ [(p, inn)]).length ≤ 12) := by unfold Hid; rw [List.length_append]; have := HL12.out; simp; omega
      have c6 := HC.out w9 hb9
      have hBb : b < w9.heap.size := World.block_lt_of_cell? w9 _ c6
      clear hg9 hown9 hown R9 hbel hsz hi hz0 hz1 hz2
      obtain ⟨M0, hM0⟩ : ∃ M0, L ++ [(p, inn)] = M0 := ⟨_, rfl⟩
      obtain ⟨X0, hX0⟩ : ∃ X0, X ++ [((b, o), inn)] = X0 := ⟨_, rfl⟩
      rw [hM0] at HR HX2 HO HM
      rw [hX0] at HX2 HO
      clear hM0 hX0 h12 h12' HL12
      obtain ⟨kids, hkids⟩ : ∃ kids, p.kids = kids := ⟨_, rfl⟩
      rw [hkids] at HR HC HK hKl c6
      clear hkids
      obtain ⟨nk, hnk⟩ : ∃ nk, kids.length = nk := ⟨_, rfl⟩
      have HNK : Hid (kids.length = nk) := hnk
      rw [hnk] at HC HK hKl c6
      clear hnk
      obtain ⟨own, hownn⟩ : ∃ own, L.length = own := ⟨_, rfl⟩
      rw [hownn] at HR IH
      simp only [hownn]
      clear hownn
      go_wp2_with fail
      go_loopw [0, 33] (fun lvv iv wr => ∃ (k : Nat) (M : List (PT × Int)) (X : List PX) (q : Option Addr) (n c : Nat), k ≤ nk ∧ iv = .int .i64 k ∧ lvv = .slice q n c ∧ Below w0.heap.size w0 wr ∧ Hid (wr.ownsRow w0.heap.size 130 2 (.slice q n c) M.length (plv X)) ∧ Hid (PLs w0 X M) ∧ Hid (M.length ≤ 12) ∧ Hid (RES = putAll (f + 1) (depth + 1) own M (kids.drop k))) (fun _ iv _ => nk - (intOf iv).toNat)
      case atStart =>
        obtain ⟨q9, c9, rfl⟩ := owned_slice HO.out
        exact ⟨0, M0, X0, q9, M0.length, c9, Nat.zero_le _, rfl, rfl, hb9, HO, HX2, HM, HR⟩
      case round =>
        obtain ⟨k, M, X, q1, n1, c1, hk, rfl, rfl, hbr, HO, HX, HM, HR⟩ := hrel
        have c6r := HC.out wr hbr
        by_cases hlt : k < nk
        · have hlz : (k : Int) < (nk : Int) := by omega
          have hne : kids ≠ [] := fun e => by have := HNK.out; rw [e] at this; simp at this; omega
          obtain ⟨F', b', o', -, rfl, hPk⟩ := HK.out hne
          have HPk : Hid (PAt w0 F' b' (o' + k * 7) (kids.getD k pt0)) := hPk k hlt
          have hdr : kids.drop k = kids.getD k pt0 :: kids.drop (k + 1) := by
            have hkl : k < kids.length := by rw [HNK.out]; exact hlt
            rw [List.drop_eq_getElem_cons hkl]
            simp [List.getD_eq_getElem?_getD, List.getElem?_eq_getElem hkl]
          rw [hdr] at HR
          clear hdr hPk HK
          have CI : Hid (Calls Tryz.prog 100 #[.slice q1 n1 c1, .pointer (some ⟨b', o' + k * 7, none⟩), .int .i64 (dd + 1), .int .i64 (own : Int)] wr fun e w' => PlacesPost w0 (put (f + 1) M (kids.getD k pt0) (depth + 1) (own : Int)) e w') := IH.out _ X M b' (o' + k * 7) F' _ wr HM.out hbr HO.out HX.out HPk.out
          cases hput : put (f + 1) M (kids.getD k pt0) (depth + 1) (own : Int) with
          | none =>
            have HN : Hid (RES = none) := by unfold Hid; rw [HR.out, putAll_none _ _ _ _ _ _ hput]
            rw [hput] at CI
            clear hput HR HO HX HM HPk IH
            go_wp2_with fail
            refine CI.out.mono ?_
            rintro e w2 ⟨hb2, rfl⟩
            go_wp2_with fail
            go_ret2
            show PlacesPost _ _ _ _
            rw [HN.out]
            exact ⟨hb2, rfl⟩
          | some M2 =>
            have HN : Hid (RES = putAll (f + 1) (depth + 1) own M2 (kids.drop (k + 1))) := by unfold Hid; rw [HR.out, putAll_some _ _ _ _ _ _ _ hput]
            have HM2 : Hid (M2.length ≤ 12) := (put_length _ _ _ _ _ _ HM.out hput).2
            rw [hput] at CI
            clear hput HR HO HX HM HPk IH
            go_wp2_with fail
            refine CI.out.mono ?_
            rintro e w2 ⟨hb2, v2, X2, rfl, ho2, hx2⟩
            have HO2 : Hid (w2.ownsRow w0.heap.size 130 2 v2 M2.length (plv X2)) := ho2
            have HX2 : Hid (PLs w0 X2 M2) := hx2
            clear ho2 hx2 CI
            go_wp2_with fail
            go_roundw
            case rel =>
              obtain ⟨q2, c2, rfl⟩ := owned_slice HO2.out
              exact ⟨k + 1, M2, X2, q2, M2.length, c2, by omega, by go_num, rfl, hb2, HO2, HX2, HM2, HN⟩
            case measure => simp [intOf]; omega
        · have hlz : ¬ ((k : Int) < (nk : Int)) := by omega
          have HN : Hid (RES = some M) := by unfold Hid; rw [HR.out, List.drop_of_length_le (by rw [HNK.out]; omega), putAll_nil]
          clear HR HK IH
          go_wp2_with fail
          go_ret2
          show PlacesPost _ _ _ _
          rw [HN.out]
          exact ⟨hbr, _, X, rfl, HO.out, HX.out⟩
end Go.Proofs.YtlndhdimamnnlaaGreatDoor

/- strings.Cut at one byte: what the plain function says; nothing that was there is changed. Condition: the text is no longer than a text can be. -/
namespace Go.Proofs.YtlndhdimamnnlaaGreatDoor
open Go.RowKit

/-- Where the first d is. -/
def whereB (d : UInt8) (l : List UInt8) : Int := match cutB d l with | none => -1 | some x => (x.1.length : Int)
theorem whereB_none {d : UInt8} {l : List UInt8} (h : cutB d l = none) : whereB d l = -1 := by rw [whereB, h]
theorem whereB_some {d : UInt8} {l : List UInt8} {x : List UInt8 × List UInt8} (h : cutB d l = some x) : whereB d l = (x.1.length : Int) := by rw [whereB, h]

theorem indexByte_where (d : UInt8) : ∀ l : List UInt8, Lib.indexByte l d = whereB d l
  | [] => rfl
  | b :: l => by
    rw [Lib.indexByte, indexByte_where d l]
    by_cases h : b = d
    · subst h; simp [whereB, cutB]
    · rw [if_neg (by simpa using h)]
      cases hc : cutB d l with
      | none => simp [whereB, cutB, h, hc]
      | some x =>
        have h1 : ¬ ((x.1.length : Int) == -1) = true := by rw [beq_iff_eq]; omega
        simp only [whereB, cutB, hc, h, if_false, Option.map_some, List.length_cons]
        rw [if_neg h1]
        omega

theorem cutB_none_drop (d : UInt8) (l : List UInt8) (k : Nat) (hk : k < l.length) (h1 : cutB d (l.drop k) = none) : l.getD k 0 ≠ d ∧ cutB d (l.drop (k + 1)) = none := by
  rw [List.drop_eq_getElem_cons hk, cutB] at h1
  split at h1
  · cases h1
  · rename_i e
    refine ⟨by simpa [List.getD_eq_getElem?_getD, List.getElem?_eq_getElem hk] using e, ?_⟩
    cases hc : cutB d (l.drop (k + 1)) with
    | none => rfl
    | some x => rw [hc] at h1; cases h1

theorem ba_cut (d : UInt8) (X : ByteArray) (n v : List UInt8) (h : X.data.toList = n ++ d :: v) : ∃ NM VL : ByteArray, X.extract 0 n.length = NM ∧ X.extract (n.length + 1) X.size = VL ∧ NM.data.toList = n ∧ VL.data.toList = v ∧ X.size = n.length + 1 + v.length := by
  have hl : X.size = n.length + 1 + v.length := by rw [Lib.size_eq, h]; simp; omega
  have e1 : (X.extract 0 n.length).data.toList = n := by rw [Lib.extract_data, h]; simp
  have e2 : (X.extract (n.length + 1) X.size).data.toList = v := by
    rw [Lib.extract_data, h, hl, show n.length + 1 + v.length - (n.length + 1) = v.length from by omega, ← List.drop_drop]
    simp
  exact ⟨_, _, rfl, rfl, e1, e2, hl⟩

theorem ba_inj {a b : ByteArray} (h : a.data.toList = b.data.toList) : a = b := ByteArray.ext (Array.toList_inj.1 h)

theorem lite_none (d : UInt8) (s : ByteArray) (w : World) (h : cutB d s.data.toList = none) :
    Calls Tryz.prog 163 #[.string s, .string ⟨#[d]⟩] w fun e w' => e = .returned (.tuple #[.string s, .string ⟨#[]⟩, .bool false]) ∧ w' = w := by
  have C := Tryz.stringslite_Index_one s d w
  rw [indexByte_where, whereB_none h] at C
  clear h
  have HC : Hid (Calls Tryz.prog 97 #[.string s, .string ⟨#[d]⟩] w fun e w' => e = .returned (.int .i64 (-1)) ∧ w' = w) := C
  clear C
  go_enter Tryz.func163, Tryz.ntmps163
  go_wp2_with fail
  refine HC.out.mono ?_
  rintro e w' ⟨rfl, hw'⟩
  have hw'' := hw'.symm
  subst hw''
  clear HC
  go_wp2
  go_ret3
  exact ⟨rfl, rfl⟩

set_option maxHeartbeats 1000000 in
theorem lite_someW (d : UInt8) (s a r : ByteArray) (w : World) (hs : s.size ≤ 9223372036854775807) (h : cutB d s.data.toList = some (a.data.toList, r.data.toList)) :
    Calls Tryz.prog 163 #[.string s, .string ⟨#[d]⟩] w fun e w' => e = .returned (.tuple #[.string a, .string r, .bool true]) ∧ Below w.heap.size w w' := by
  have C := Tryz.stringslite_Index_one s d w
  rw [indexByte_where, whereB_some h] at C
  simp only at C
  obtain ⟨A, R, h1, h2, h3, h4, h5⟩ := ba_cut d s _ _ (cutB_some d _ _ _ h).1
  have hA := ba_inj h3
  have hR := ba_inj h4
  subst hA hR
  obtain ⟨I, hI⟩ : ∃ I, I = A.data.toList.length := ⟨_, rfl⟩
  rw [← hI] at C h1 h2 h5
  have hI1 : (I : Int) < (s.size : Int) := by omega
  have hI2 : (I : Int) + 1 ≤ (s.size : Int) := by omega
  have HC : Hid (Calls Tryz.prog 97 #[.string s, .string ⟨#[d]⟩] w fun e w' => e = .returned (.int .i64 (I : Int)) ∧ w' = w) := C
  clear C h h3 h4 h5 hI
  go_enter Tryz.func163, Tryz.ntmps163
  go_wp2_with fail
  refine HC.out.mono ?_
  rintro e w' ⟨rfl, hw'⟩
  have hw'' := hw'.symm
  subst hw''
  clear HC
  go_wp2
  go_region
  go_wp2
  go_ret3
  exact ⟨rfl, (Below.refl _ _).drew⟩

theorem cut_none (d : UInt8) (s : ByteArray) (w : World) (h : cutB d s.data.toList = none) :
    Calls Tryz.prog 114 #[.string s, .string ⟨#[d]⟩] w fun e w' => e = .returned (.tuple #[.string s, .string ⟨#[]⟩, .bool false]) ∧ Below w.heap.size w w' := by
  have HC : Hid (Calls Tryz.prog 163 #[.string s, .string ⟨#[d]⟩] w fun e w' => e = .returned (.tuple #[.string s, .string ⟨#[]⟩, .bool false]) ∧ w' = w) := lite_none d s w h
  clear h
  go_enter Tryz.func114, Tryz.ntmps114
  go_wp2_with fail
  refine HC.out.mono ?_
  rintro e w' ⟨rfl, hw'⟩
  have hw'' := hw'.symm
  subst hw''
  clear HC
  go_wp2
  go_ret3
  exact ⟨rfl, Below.refl _ _⟩
theorem cut_someW (d : UInt8) (s a r : ByteArray) (w : World) (hs : s.size ≤ 9223372036854775807) (h : cutB d s.data.toList = some (a.data.toList, r.data.toList)) :
    Calls Tryz.prog 114 #[.string s, .string ⟨#[d]⟩] w fun e w' => e = .returned (.tuple #[.string a, .string r, .bool true]) ∧ Below w.heap.size w w' := by
  have HC : Hid (Calls Tryz.prog 163 #[.string s, .string ⟨#[d]⟩] w fun e w' => e = .returned (.tuple #[.string a, .string r, .bool true]) ∧ Below w.heap.size w w') := lite_someW d s a r w hs h
  clear h
  go_enter Tryz.func114, Tryz.ntmps114
  go_wp2_with fail
  refine HC.out.mono ?_
  rintro e w' ⟨rfl, hb⟩
  clear HC
  go_wp2
  go_ret3
  exact ⟨rfl, hb⟩
theorem cut_some (d : UInt8) (s a r : ByteArray) (w : World) (hs : s.size ≤ 1000000000) (h : cutB d s.data.toList = some (a.data.toList, r.data.toList)) :
    Calls Tryz.prog 114 #[.string s, .string ⟨#[d]⟩] w fun e w' => e = .returned (.tuple #[.string a, .string r, .bool true]) ∧ Below w.heap.size w w' :=
  cut_someW d s a r w (by omega) h

/-- What is ahead of, and behind, a byte, as texts. -/
theorem cut_parts {d : UInt8} {s : ByteArray} {x : List UInt8 × List UInt8} (h : cutB d s.data.toList = some x) : ∃ a r : ByteArray, x = (a.data.toList, r.data.toList) ∧ s.size = a.size + 1 + r.size := by
  refine ⟨⟨x.1.toArray⟩, ⟨x.2.toArray⟩, rfl, ?_⟩
  have e := (cutB_some d s.data.toList x.1 x.2 h).1
  rw [Lib.size_eq, e, Lib.size_eq, Lib.size_eq]
  simp only [List.length_append, List.length_cons]
  omega

end Go.Proofs.YtlndhdimamnnlaaGreatDoor

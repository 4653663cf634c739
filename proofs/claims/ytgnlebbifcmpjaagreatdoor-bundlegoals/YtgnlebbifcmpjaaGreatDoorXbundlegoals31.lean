/- part.appendPlaces behind places that the caller owns: what the plain function says; what the caller does not own is as it was. Conditions: the part lies there; the places' parts lie there. -/
import Derived.Test.YtgnlebbifcmpjaaGreatDoorXbundlegoals30
import Derived.Test.YtgnlebbifcmpjaaGreatDoorXbundlegoals4
namespace Go.Proofs.YtgnlebbifcmpjaaGreatDoor
open Go.RowKit

/-- Places as they lie in memory: addresses, numbers. -/
abbrev PX := (Nat × Nat) × Int
def plv (X : List PX) : List Value := X.flatMap fun x => [.pointer (some ⟨x.1.1, x.1.2, none⟩), .int .i64 x.2]
theorem plv_length : ∀ X : List PX, (plv X).length = X.length * 2
  | [] => rfl
  | x :: X => by show ([_, _] ++ plv X).length = _; rw [List.length_append, plv_length X]; simp; omega
theorem plv_snoc (X : List PX) (x : PX) : plv (X ++ [x]) = plv X ++ [.pointer (some ⟨x.1.1, x.1.2, none⟩), .int .i64 x.2] := by simp [plv]
/-- These places are those of the plain list. -/
def PLs (w : World) (X : List PX) (L : List (PT × Int)) : Prop :=
  X.length = L.length ∧ ∀ (i : Nat) x q, X[i]? = some x → L[i]? = some q → x.2 = q.2 ∧ ∃ f, PAt w f x.1.1 x.1.2 q.1
theorem PLs.nil (w : World) : PLs w [] [] := ⟨rfl, fun i x q h => by simp at h⟩
theorem PLs.snoc {w : World} {X : List PX} {L : List (PT × Int)} (h : PLs w X L) {b o : Nat} {p : PT} {k : Int} {f : Nat} (hp : PAt w f b o p) : PLs w (X ++ [((b, o), k)]) (L ++ [(p, k)]) := by
  refine ⟨by rw [List.length_append, List.length_append, h.1]; rfl, fun i x q hx hq => ?_⟩
  by_cases hi : i < X.length
  · rw [List.getElem?_append_left hi] at hx
    rw [List.getElem?_append_left (by rw [← h.1]; exact hi)] at hq
    exact h.2 i x q hx hq
  · rw [List.getElem?_append_right (by omega)] at hx
    rw [List.getElem?_append_right (by rw [← h.1]; omega), ← h.1] at hq
    cases hd : i - X.length with
    | zero =>
      rw [hd] at hx hq
      obtain rfl := Option.some.inj hx
      obtain rfl := Option.some.inj hq
      exact ⟨rfl, f, hp⟩
    | succ n => rw [hd] at hx; simp at hx

theorem info_place : (Tryz.prog.info? 105).map (fun i => (i.zero, i.size, i.bytes)) = some (some (.agg #[.pointer none, .int .i64 0]), 2, 16) := by kernel_rfl

/-- What is owned is a slice of so many. -/
theorem owned_slice {w : World} {B e s n : Nat} {v : Value} {xs : List Value} (h : w.ownsRow B e s v n xs) : ∃ p c, v = .slice p n c := by
  rcases h.2 with ⟨rfl, rfl⟩ | ⟨g, cap, cur, rfl, _⟩
  · exact ⟨none, 0, rfl⟩
  · exact ⟨_, _, rfl⟩

def PlacesPost (w0 : World) (r : Option (List (PT × Int))) (e : Ending) (w' : World) : Prop :=
  Below w0.heap.size w0 w' ∧ match r with
  | none => e = .returned (.tuple #[.slice none 0 0, .bool false])
  | some M => ∃ v X, e = .returned (.tuple #[v, .bool true]) ∧ w'.ownsRow w0.heap.size 105 2 v M.length (plv X) ∧ PLs w0 X M

set_option maxHeartbeats 1000000 in
set_option maxRecDepth 100000 in
/-- part.appendPlaces. -/
theorem places_any (w0 : World) : ∀ (f : Nat) (F : Nat) (lv : Value) (X : List PX) (L : List (PT × Int)) (b o : Nat) (p : PT) (depth : Nat) (dd inn : Int) (w : World), f ≤ 3 → f + depth = 4 → dd = (depth : Int) → L.length ≤ 12 →
    Below w0.heap.size w0 w → w.ownsRow w0.heap.size 105 2 lv L.length (plv X) → PLs w0 X L → PAt w0 F b o p →
    Calls Tryz.prog 118 #[lv, .pointer (some ⟨b, o, none⟩), .int .i64 dd, .int .i64 inn] w fun e w' => PlacesPost w0 (put (f + 1) L p depth inn) e w' := by
  intro f
  induction f with
  | zero =>
    intro F lv X L b o p depth dd inn w _ hfd hdd hL hbel hown hX hP
    obtain ⟨q, c, rfl⟩ := owned_slice hown
    have HR : Hid (put (0 + 1) L p depth inn = none) := put_stop _ _ _ _ _ (.inr (by omega))
    have h3 : (3 : Int) < dd := by omega
    generalize L.length = n at *
    clear hdd hown hX hP
    go_enter Tryz.func118, Tryz.ntmps118
    by_cases h12 : n = 12
    · subst h12
      go_wp2_with fail
      go_ret2
      show PlacesPost _ _ _ _
      rw [HR.out]
      exact ⟨hbel, rfl⟩
    · have h12' : ((n : Int) == 12) = false := by rw [beq_eq_false_iff_ne]; omega
      go_wp2_with fail
      go_ret2
      show PlacesPost _ _ _ _
      rw [HR.out]
      exact ⟨hbel, rfl⟩
  | succ f ih =>
    intro F lv X L b o p depth dd inn w hf3 hfd hdd hL hbel hown hX hP
    by_cases h12 : L.length = 12
    · obtain ⟨q, c, rfl⟩ := owned_slice hown
      have HR : Hid (put (f + 1 + 1) L p depth inn = none) := put_stop _ _ _ _ _ (.inl h12)
      rw [h12]
      clear hdd hown hX hP ih h12
      go_enter Tryz.func118, Tryz.ntmps118
      go_wp2_with fail
      go_ret2
      show PlacesPost _ _ _ _
      rw [HR.out]
      exact ⟨hbel, rfl⟩
    · have HR : Hid (put (f + 1 + 1) L p depth inn = putAll (f + 1) (depth + 1) L.length (L ++ [(p, inn)]) p.kids) := put_go _ _ _ _ _ (by omega)
      obtain ⟨i0, hi, hz0, hz1, hz2⟩ := info_parts info_place
      have hPw := hP.below hbel
      obtain ⟨pb, cb, pk, ck, hC, hH⟩ := hPw
      obtain ⟨pb', cb', pk', ck', hC', hH'⟩ := hP
      have hsz := hbel.size
      obtain ⟨q, c, rfl⟩ := owned_slice hown
      have h12' : ((L.length : Int) == 12) = false := by rw [beq_eq_false_iff_ne]; omega
      have h3 : ¬ ((3 : Int) < dd) := by omega
      have hKl : p.kids.length ≤ 9223372036854775807 := by have := hH.1.2.2.2.2.2.2.2; unfold maxLen at this; exact this
      -- what lies there in every later world
      have HC : Hid (∀ w', Below w0.heap.size w0 w' → w'.cell? ⟨b, o + 6, none⟩ = some (.slice pk' p.kids.length ck')) := fun w' hb => (hC'.below hb).2.2.2.2.2.2
      have HK : Hid (p.kids ≠ [] → ∃ F' b' o', F = F' + 1 ∧ pk' = some ⟨b', o', none⟩ ∧ ∀ i, i < p.kids.length → PAt w0 F' b' (o' + i * 7) (p.kids.getD i pt0)) := fun hne => by
        have hk : KAt w0 F pk' p.kids := hH'.2.2.2.2
        cases F with
        | zero => exact absurd hk hne
        | succ F' =>
          obtain ⟨b', o', e1, e2⟩ := hk.each hne
          exact ⟨F', b', o', rfl, e1, e2⟩
      have HX2 : Hid (PLs w0 (X ++ [((b, o), inn)]) (L ++ [(p, inn)])) := hX.snoc ⟨pb', cb', pk', ck', hC', hH'⟩
      have IH : Hid (∀ (lv : Value) (X : List PX) (M : List (PT × Int)) (b o F : Nat) (k : PT) (w : World), M.length ≤ 12 → Below w0.heap.size w0 w → w.ownsRow w0.heap.size 105 2 lv M.length (plv X) → PLs w0 X M → PAt w0 F b o k →
          Calls Tryz.prog 118 #[lv, .pointer (some ⟨b, o, none⟩), .int .i64 (dd + 1), .int .i64 (L.length : Int)] w fun e w' => PlacesPost w0 (put (f + 1) M k (depth + 1) (L.length : Int)) e w') :=
        fun lv X M b o F k w h1 h2 h3 h4 h5 => ih F lv X M b o k (depth + 1) (dd + 1) (L.length : Int) w (by omega) (by omega) (by omega) h1 h2 h3 h4 h5
      have hd4 : dd ≤ 3 := by omega
      have hd0 : 0 ≤ dd := by omega
      have HL12 : Hid (L.length < 12) := by unfold Hid; omega
      generalize hRES : put (f + 1 + 1) L p depth inn = RES at *
      clear ih hC hH hC' hH' hX hdd hRES
      go_enter Tryz.func118, Tryz.ntmps118
      go_wp2_with (at_builtin; refine wpList_append_own _ rfl (.tmp 22) (.tmp 26) 100 rfl w0.heap.size 105 i0 (.agg #[.pointer none, .int .i64 0]) 2 16 Tryz.underlying100 hi hz0 hz1 hz2 rfl (by decide) _ _ _ rfl (hown.alloc _) ⟨w.heap.size, 0, none⟩ 1 1 [.pointer (some ⟨b, o, none⟩), .int .i64 inn] rfl rfl (cell_two _ _ _ _) ?c2 ?c3 ?c4 ?c5 ?_)
      case c2 => first | exact ⟨rfl, rfl⟩ | (intro u hu; simp at hu; rcases hu with rfl | rfl <;> rfl)
      case c3 => unfold maxLen; omega
      case c4 => omega
      case c5 => first | omega | (simp; omega)
      intro v9 w9 hown9 hg9 _
      have hb9 : Below w0.heap.size w0 w9 := (hbel.alloc hsz _).grown hg9 (by simp; omega) (fun j hj => (hown.lt j hj).1)
      have R9 : w9.ownsRow w0.heap.size 105 2 v9 (L ++ [(p, inn)]).length (plv (X ++ [((b, o), inn)])) := by rw [plv_snoc, List.length_append]; exact hown9
      have HO : Hid (w9.ownsRow w0.heap.size 105 2 v9 (L ++ [(p, inn)]).length (plv (X ++ [((b, o), inn)]))) := R9
      have HM : Hid ((L ++ [(p, inn)]).length ≤ 12) := by unfold Hid; rw [List.length_append]; have := HL12.out; simp; omega
      have c6 := HC.out w9 hb9
      have hBb : b < w9.heap.size := World.block_lt_of_cell? w9 _ c6
      clear hg9 hown9 hown R9 hbel hsz hi hz0 hz1 hz2
      obtain ⟨M0, hM0⟩ : ∃ M0, L ++ [(p, inn)] = M0 := ⟨_, rfl⟩
      obtain ⟨X0, hX0⟩ : ∃ X0, X ++ [((b, o), inn)] = X0 := ⟨_, rfl⟩
      rw [hM0] at HR HX2 HO HM
      rw [hX0] at HX2 HO
      clear hM0 hX0 h12 h12' HL12
      obtain ⟨kids, hkids⟩ : ∃ kids, p.kids = kids := ⟨_, rfl⟩
      rw [hkids] at HR HC HK hKl c6
      clear hkids
      obtain ⟨nk, hnk⟩ : ∃ nk, kids.length = nk := ⟨_, rfl⟩
      have HNK : Hid (kids.length = nk) := hnk
      rw [hnk] at HC HK hKl c6
      clear hnk
      obtain ⟨own, hownn⟩ : ∃ own, L.length = own := ⟨_, rfl⟩
      rw [hownn] at HR IH
      simp only [hownn]
      clear hownn
      go_wp2_with fail
      go_loopw [0, 33] (fun lvv iv wr => ∃ (k : Nat) (M : List (PT × Int)) (X : List PX) (q : Option Addr) (n c : Nat), k ≤ nk ∧ iv = .int .i64 k ∧ lvv = .slice q n c ∧ Below w0.heap.size w0 wr ∧ Hid (wr.ownsRow w0.heap.size 105 2 (.slice q n c) M.length (plv X)) ∧ Hid (PLs w0 X M) ∧ Hid (M.length ≤ 12) ∧ Hid (RES = putAll (f + 1) (depth + 1) own M (kids.drop k))) (fun _ iv _ => nk - (intOf iv).toNat)
      case atStart =>
        obtain ⟨q9, c9, rfl⟩ := owned_slice HO.out
        exact ⟨0, M0, X0, q9, M0.length, c9, Nat.zero_le _, rfl, rfl, hb9, HO, HX2, HM, HR⟩
      case round =>
        obtain ⟨k, M, X, q1, n1, c1, hk, rfl, rfl, hbr, HO, HX, HM, HR⟩ := hrel
        have c6r := HC.out wr hbr
        by_cases hlt : k < nk
        · have hlz : (k : Int) < (nk : Int) := by omega
          have hne : kids ≠ [] := fun e => by have := HNK.out; rw [e] at this; simp at this; omega
          obtain ⟨F', b', o', -, rfl, hPk⟩ := HK.out hne
          have HPk : Hid (PAt w0 F' b' (o' + k * 7) (kids.getD k pt0)) := hPk k hlt
          have hdr : kids.drop k = kids.getD k pt0 :: kids.drop (k + 1) := by
            have hkl : k < kids.length := by rw [HNK.out]; exact hlt
            rw [List.drop_eq_getElem_cons hkl]
            simp [List.getD_eq_getElem?_getD, List.getElem?_eq_getElem hkl]
          rw [hdr] at HR
          clear hdr hPk HK
          have CI : Hid (Calls Tryz.prog 118 #[.slice q1 n1 c1, .pointer (some ⟨b', o' + k * 7, none⟩), .int .i64 (dd + 1), .int .i64 (own : Int)] wr fun e w' => PlacesPost w0 (put (f + 1) M (kids.getD k pt0) (depth + 1) (own : Int)) e w') := IH.out _ X M b' (o' + k * 7) F' _ wr HM.out hbr HO.out HX.out HPk.out
          cases hput : put (f + 1) M (kids.getD k pt0) (depth + 1) (own : Int) with
          | none =>
            have HN : Hid (RES = none) := by unfold Hid; rw [HR.out, putAll_none _ _ _ _ _ _ hput]
            rw [hput] at CI
            clear hput HR HO HX HM HPk IH
            go_wp2_with fail
            refine CI.out.mono ?_
            rintro e w2 ⟨hb2, rfl⟩
            go_wp2_with fail
            go_ret2
            show PlacesPost _ _ _ _
            rw [HN.out]
            exact ⟨hb2, rfl⟩
          | some M2 =>
            have HN : Hid (RES = putAll (f + 1) (depth + 1) own M2 (kids.drop (k + 1))) := by unfold Hid; rw [HR.out, putAll_some _ _ _ _ _ _ _ hput]
            have HM2 : Hid (M2.length ≤ 12) := (put_length _ _ _ _ _ _ HM.out hput).2
            rw [hput] at CI
            clear hput HR HO HX HM HPk IH
            go_wp2_with fail
            refine CI.out.mono ?_
            rintro e w2 ⟨hb2, v2, X2, rfl, ho2, hx2⟩
            have HO2 : Hid (w2.ownsRow w0.heap.size 105 2 v2 M2.length (plv X2)) := ho2
            have HX2 : Hid (PLs w0 X2 M2) := hx2
            clear ho2 hx2 CI
            go_wp2_with fail
            go_roundw
            case rel =>
              obtain ⟨q2, c2, rfl⟩ := owned_slice HO2.out
              exact ⟨k + 1, M2, X2, q2, M2.length, c2, by omega, by go_num, rfl, hb2, HO2, HX2, HM2, HN⟩
            case measure => simp [intOf]; omega
        · have hlz : ¬ ((k : Int) < (nk : Int)) := by omega
          have HN : Hid (RES = some M) := by unfold Hid; rw [HR.out, List.drop_of_length_le (by rw [HNK.out]; omega), putAll_nil]
          clear HR HK IH
          go_wp2_with fail
          go_ret2
          show PlacesPost _ _ _ _
          rw [HN.out]
          exact ⟨hbr, _, X, rfl, HO.out, HX.out⟩
end Go.Proofs.YtgnlebbifcmpjaaGreatDoor

/- header.Token: what the plain function says; nothing that was there is changed. Condition: the text is no longer than a text can be. -/
namespace Go.Proofs.YtgnlebbifcmpjaaGreatDoor
open Go.RowKit

theorem tokc_any (c : UInt8) (w : World) : Calls Tryz.prog 198 #[.int .u8 (c.toNat : Int)] w fun e w' => e = .returned (.bool (inB 33 126 specials c)) ∧ w' = w := by
  by_cases h1 : 33 ≤ c.toNat
  · have h1' : (33 : Int) ≤ (c.toNat : Int) := by omega
    by_cases h2 : c.toNat ≤ 126
    · have h2' : (c.toNat : Int) ≤ 126 := by omega
      have HN : Hid (inB 33 126 specials c = !specials.contains c) := by unfold Hid inB; simp only [h1, h2]; simp
      have hi9 : ∀ i : Int, decide (0 ≤ i) = specials.contains c → decide (i < 0) = !specials.contains c := by
        intro i h; rw [← h]; by_cases hi : 0 ≤ i <;> simp [hi] <;> omega
      go_enter Tryz.func198, Tryz.ntmps198
      go_wp2_with fail
      refine (ix_any _ specials rfl c _ rfl _).mono ?_
      rintro e w' ⟨i, rfl, hi, hw'⟩
      have hw'' := hw'.symm
      subst hw''
      have h3 := hi9 i hi
      clear hi hi9
      go_wp2
      go_ret
      exact ⟨by rw [HN.out]; simp, rfl⟩
    · have h2' : decide ((c.toNat : Int) ≤ 126) = false := by simp; omega
      have HN : Hid (inB 33 126 specials c = false) := by unfold Hid inB; simp only [h2]; simp
      go_enter Tryz.func198, Tryz.ntmps198
      go_wp2
      go_ret
      exact ⟨by rw [HN.out]; rfl, rfl⟩
  · have h1' : decide ((33 : Int) ≤ (c.toNat : Int)) = false := by simp; omega
    have HN : Hid (inB 33 126 specials c = false) := by unfold Hid inB; simp only [h1]; simp
    go_enter Tryz.func198, Tryz.ntmps198
    go_wp2
    go_ret
    exact ⟨by rw [HN.out]; rfl, rfl⟩

def allB (p : UInt8 → Bool) (l : List UInt8) : Bool := l.all p
theorem allB_cons (p : UInt8 → Bool) (c : UInt8) (l : List UInt8) : allB p (c :: l) = (p c && allB p l) := rfl
def tokB : UInt8 → Bool := inB 33 126 specials
def valB : UInt8 → Bool := inB 32 126 []

set_option maxHeartbeats 1000000 in
theorem every_tok (s : ByteArray) (w : World) (hs : s.size ≤ 1000000) :
    Calls Tryz.prog 197 #[.string s, .func (Fn.func 198) #[] #[]] w fun e w' => e = .returned (.bool (allB tokB s.data.toList)) ∧ w' = w := by
  go_enter Tryz.func197, Tryz.ntmps197
  go_wp2
  go_loop [8] (fun iv => ∃ k : Nat, k ≤ s.size ∧ iv = .int .i64 k ∧ Hid (allB tokB (s.data.toList.drop k) = allB tokB s.data.toList)) (fun iv => s.size - (intOf iv).toNat)
  case atStart => exact ⟨0, Nat.zero_le _, rfl, rfl⟩
  case round =>
    obtain ⟨k, hk, rfl, HK⟩ := hrel
    by_cases hlt : k < s.size
    · have hdr : Hid (allB tokB (s.data.toList.drop k) = (tokB s[k] && allB tokB (s.data.toList.drop (k + 1)))) := by unfold Hid; rw [dropB s k hlt, allB_cons]
      cases hp : tokB s[k]
      · have HN : Hid (allB tokB s.data.toList = false) := by unfold Hid; rw [← HK.out, hdr.out, hp]; rfl
        have C : Hid (∀ w, Calls Tryz.prog 198 #[.int .u8 (s[k].toNat : Int)] w fun e w' => e = .returned (.bool false) ∧ w' = w) := by intro w; rw [← hp]; exact tokc_any _ w
        clear hdr HK hp
        go_wp2_with fail
        refine (C.out _).mono ?_
        rintro e w' ⟨rfl, hw'⟩
        have hw'' := hw'.symm
        subst hw''
        go_wp2
        go_ret
        exact ⟨by rw [HN.out]; rfl, rfl⟩
      · have HN : Hid (allB tokB (s.data.toList.drop (k + 1)) = allB tokB s.data.toList) := by unfold Hid; rw [← HK.out, hdr.out, hp]; rfl
        have C : Hid (∀ w, Calls Tryz.prog 198 #[.int .u8 (s[k].toNat : Int)] w fun e w' => e = .returned (.bool true) ∧ w' = w) := by intro w; rw [← hp]; exact tokc_any _ w
        clear hdr HK hp
        go_wp2_with fail
        refine (C.out _).mono ?_
        rintro e w' ⟨rfl, hw'⟩
        have hw'' := hw'.symm
        subst hw''
        go_wp2
        go_round
        case rel => exact ⟨k + 1, by omega, by go_num, HN⟩
        case measure => simp [intOf]; omega
    · obtain rfl : k = s.size := by omega
      have HN : Hid (allB tokB s.data.toList = true) := by
        unfold Hid
        rw [← HK.out, List.drop_of_length_le (by rw [← Lib.size_eq]; exact Nat.le_refl _)]; rfl
      clear HK
      go_wp2
      go_ret
      exact ⟨by rw [HN.out]; rfl, rfl⟩

/-- header.Token. -/
theorem htok_any (s : ByteArray) (w : World) (hs : s.size ≤ maxLen) :
    Calls Tryz.prog 160 #[.string s] w fun e w' => e = .returned (.bool (tokenS s.data.toList)) ∧ w' = w := by
  unfold maxLen at hs
  have hle := Lib.size_eq s
  by_cases h1 : 1 ≤ s.size
  · have hne : s.toList.isEmpty = false := by
      rw [ByteArray.toList_eq]
      cases h : s.data.toList with
      | nil => rw [h, List.length_nil] at hle; omega
      | cons a b => rfl
    by_cases h2 : s.size ≤ 30
    · have h2' : (s.size : Int) ≤ 30 := by omega
      have HN : Hid (tokenS s.data.toList = allB tokB s.data.toList) := by unfold Hid tokenS betw allB tokB; rw [← hle]; simp [h1, h2]
      clear hle
      go_enter Tryz.func160, Tryz.ntmps160
      go_wp2_with fail
      refine (every_tok s _ (by omega)).mono ?_
      rintro e w' ⟨rfl, hw'⟩
      have hw'' := hw'.symm
      subst hw''
      go_wp2
      go_ret
      exact ⟨by rw [HN.out]; rfl, rfl⟩
    · have h2' : decide ((s.size : Int) ≤ 30) = false := by simp; omega
      have HN : Hid (tokenS s.data.toList = false) := by unfold Hid tokenS; rw [← hle]; simp; omega
      clear hle
      go_enter Tryz.func160, Tryz.ntmps160
      go_wp2
      go_ret
      exact ⟨by rw [HN.out]; rfl, rfl⟩
  · obtain rfl : s = ⟨#[]⟩ := by
      apply ByteArray.ext; apply Array.toList_inj.1; exact List.length_eq_zero_iff.1 (by rw [← hle]; omega)
    clear hle h1 hs
    go_enter Tryz.func160, Tryz.ntmps160
    go_wp2
    go_ret
    exact ⟨rfl, rfl⟩

end Go.Proofs.YtgnlebbifcmpjaaGreatDoor

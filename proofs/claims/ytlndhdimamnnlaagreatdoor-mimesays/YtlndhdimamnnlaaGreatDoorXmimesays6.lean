
import Derived.Test.YtlndhdimamnnlaaGreatDoorXmimesays4
import Derived.Laws.RangeString
import Derived.Lib.TrimU
namespace Go.Proofs.YtlndhdimamnnlaaGreatDoor
open Go.RowKit
abbrev PX := (Nat × Nat) × Int
def plv (X : List PX) : List Value := X.flatMap fun x => [.pointer (some ⟨x.1.1, x.1.2, none⟩), .int .i64 x.2]
theorem plv_snoc (X : List PX) (x : PX) : plv (X ++ [x]) = plv X ++ [.pointer (some ⟨x.1.1, x.1.2, none⟩), .int .i64 x.2] := by simp [plv]
def PLs (w : World) (X : List PX) (L : List (PT × Int)) : Prop :=
 X.length = L.length ∧ ∀ (i : Nat) x q, X[i]? = some x → L[i]? = some q → x.2 = q.2 ∧ ∃ f, PAt w f x.1.1 x.1.2 q.1
theorem PLs.nil (w : World) : PLs w [] [] := ⟨rfl, fun i x q h => by simp at h⟩
theorem PLs.snoc {w : World} {X : List PX} {L : List (PT × Int)} (h : PLs w X L) {b o : Nat} {p : PT} {k : Int} {f : Nat} (hp : PAt w f b o p) : PLs w (X ++ [((b, o), k)]) (L ++ [(p, k)]) := by
 refine ⟨by rw [List.length_append, List.length_append, h.1]; rfl, fun i x q hx hq => ?_⟩
 by_cases hi : i < X.length
 ·rw [List.getElem?_append_left hi] at hx
  rw [List.getElem?_append_left (by rw [← h.1]; exact hi)] at hq
  exact h.2 i x q hx hq
 ·rw [List.getElem?_append_right (by omega)] at hx
  rw [List.getElem?_append_right (by rw [← h.1]; omega), ← h.1] at hq
  cases hd : i - X.length with
  | zero =>
   rw [hd] at hx hq
   obtain rfl := Option.some.inj hx
   obtain rfl := Option.some.inj hq
   exact ⟨rfl, f, hp⟩
  | succ n => rw [hd] at hx; simp at hx
theorem info_place : (Tryz.prog.info? 130).map (fun i => (i.zero, i.size, i.bytes)) = some (some (.agg #[.pointer none, .int .i64 0]), 2, 16) := by kernel_rfl
theorem owned_slice {w : World} {B e s n : Nat} {v : Value} {xs : List Value} (h : w.ownsRow B e s v n xs) : ∃ p c, v = .slice p n c := by
 rcases h.2 with ⟨rfl, rfl⟩ | ⟨g, cap, cur, rfl, _⟩
 ·exact ⟨none, 0, rfl⟩
 ·exact ⟨_, _, rfl⟩
def PlacesPost (w0 : World) (r : Option (List (PT × Int))) (e : Ending) (w' : World) : Prop :=
 Below w0.heap.size w0 w' ∧ match r with
 | none => e = .returned (.tuple #[.slice none 0 0, .bool false])
 | some M => ∃ v X, e = .returned (.tuple #[v, .bool true]) ∧ w'.ownsRow w0.heap.size 130 2 v M.length (plv X) ∧ PLs w0 X M
set_option maxHeartbeats 1000000 in
set_option maxRecDepth 100000 in
theorem places_any (w0 : World) : ∀ (f : Nat) (F : Nat) (lv : Value) (X : List PX) (L : List (PT × Int)) (b o : Nat) (p : PT) (depth : Nat) (dd inn : Int) (w : World), f ≤ 3 → f + depth = 4 → dd = (depth : Int) → L.length ≤ 12 →
  Below w0.heap.size w0 w → w.ownsRow w0.heap.size 130 2 lv L.length (plv X) → PLs w0 X L → PAt w0 F b o p →
  Calls Tryz.prog 100 #[lv, .pointer (some ⟨b, o, none⟩), .int .i64 dd, .int .i64 inn] w fun e w' => PlacesPost w0 (put (f + 1) L p depth inn) e w' := by
 intro f
 induction f with
 | zero =>
  intro F lv X L b o p depth dd inn w _ hfd hdd hL hbel hown hX hP
  obtain ⟨q, c, rfl⟩ := owned_slice hown
  have HR : Hid (put (0 + 1) L p depth inn = none) := put_stop _ _ _ _ _ (.inr (by omega))
  have h3 : (3 : Int) < dd := by omega
  generalize L.length = n at *
  clear hdd hown hX hP
  go_enter Tryz.func100, Tryz.ntmps100
  by_cases h12 : n = 12
  ·subst h12
   go_wp2_with fail
   go_ret2
   show PlacesPost _ _ _ _
   rw [HR.out]
   exact ⟨hbel, rfl⟩
  ·have h12' : ((n : Int) == 12) = false := by rw [beq_eq_false_iff_ne]; omega
   go_wp2_with fail
   go_ret2
   show PlacesPost _ _ _ _
   rw [HR.out]
   exact ⟨hbel, rfl⟩
 | succ f ih =>
  intro F lv X L b o p depth dd inn w hf3 hfd hdd hL hbel hown hX hP
  by_cases h12 : L.length = 12
  ·obtain ⟨q, c, rfl⟩ := owned_slice hown
   have HR : Hid (put (f + 1 + 1) L p depth inn = none) := put_stop _ _ _ _ _ (.inl h12)
   rw [h12]
   clear hdd hown hX hP ih h12
   go_enter Tryz.func100, Tryz.ntmps100
   go_wp2_with fail
   go_ret2
   show PlacesPost _ _ _ _
   rw [HR.out]
   exact ⟨hbel, rfl⟩
  ·have HR : Hid (put (f + 1 + 1) L p depth inn = putAll (f + 1) (depth + 1) L.length (L ++ [(p, inn)]) p.kids) := put_go _ _ _ _ _ (by omega)
   obtain ⟨i0, hi, hz0, hz1, hz2⟩ := info_parts info_place
   have hPw := hP.below hbel
   obtain ⟨pb, cb, pk, ck, hC, hH⟩ := hPw
   obtain ⟨pb', cb', pk', ck', hC', hH'⟩ := hP
   have hsz := hbel.size
   obtain ⟨q, c, rfl⟩ := owned_slice hown
   have h12' : ((L.length : Int) == 12) = false := by rw [beq_eq_false_iff_ne]; omega
   have h3 : ¬ ((3 : Int) < dd) := by omega
   have hKl : p.kids.length ≤ 9223372036854775807 := by have := hH.1.2.2.2.2.2.2.2; unfold maxLen at this; exact this
   have HC : Hid (∀ w', Below w0.heap.size w0 w' → w'.cell? ⟨b, o + 6, none⟩ = some (.slice pk' p.kids.length ck')) := fun w' hb => (hC'.below hb).2.2.2.2.2.2
   have HK : Hid (p.kids ≠ [] → ∃ F' b' o', F = F' + 1 ∧ pk' = some ⟨b', o', none⟩ ∧ ∀ i, i < p.kids.length → PAt w0 F' b' (o' + i * 7) (p.kids.getD i pt0)) := fun hne => by
    have hk : KAt w0 F pk' p.kids := hH'.2.2.2.2
    cases F with
    | zero => exact absurd hk hne
    | succ F' =>
     obtain ⟨b', o', e1, e2⟩ := hk.each hne
     exact ⟨F', b', o', rfl, e1, e2⟩
   have HX2 : Hid (PLs w0 (X ++ [((b, o), inn)]) (L ++ [(p, inn)])) := hX.snoc ⟨pb', cb', pk', ck', hC', hH'⟩
   have IH : Hid (∀ (lv : Value) (X : List PX) (M : List (PT × Int)) (b o F : Nat) (k : PT) (w : World), M.length ≤ 12 → Below w0.heap.size w0 w → w.ownsRow w0.heap.size 130 2 lv M.length (plv X) → PLs w0 X M → PAt w0 F b o k →
     Calls Tryz.prog 100 #[lv, .pointer (some ⟨b, o, none⟩), .int .i64 (dd + 1), .int .i64 (L.length : Int)] w fun e w' => PlacesPost w0 (put (f + 1) M k (depth + 1) (L.length : Int)) e w') :=
    fun lv X M b o F k w h1 h2 h3 h4 h5 => ih F lv X M b o k (depth + 1) (dd + 1) (L.length : Int) w (by omega) (by omega) (by omega) h1 h2 h3 h4 h5
   have hd4 : dd ≤ 3 := by omega
   have hd0 : 0 ≤ dd := by omega
   have HL12 : Hid (L.length < 12) := by unfold Hid; omega
   generalize hRES : put (f + 1 + 1) L p depth inn = RES at *
   clear ih hC hH hC' hH' hX hdd hRES
   go_enter Tryz.func100, Tryz.ntmps100
   go_wp2_with (at_builtin; refine wpList_append_own _ rfl (.tmp 22) (.tmp 26) 86 rfl w0.heap.size 130 i0 (.agg #[.pointer none, .int .i64 0]) 2 16 Tryz.underlying86 hi hz0 hz1 hz2 rfl (by decide) _ _ _ rfl (hown.alloc _) ⟨w.heap.size, 0, none⟩ 1 1 [.pointer (some ⟨b, o, none⟩), .int .i64 inn] rfl rfl (cell_two _ _ _ _) ?c2 ?c3 ?c4 ?c5 ?_)
   case c2 => first | exact ⟨rfl, rfl⟩ | (intro u hu; simp at hu; rcases hu with rfl | rfl <;> rfl)
   case c3 => unfold maxLen; omega
   case c4 => omega
   case c5 => first | omega | (simp; omega)
   intro v9 w9 hown9 hg9 _
   have hb9 : Below w0.heap.size w0 w9 := (hbel.alloc hsz _).grown hg9 (by simp; omega) (fun j hj => (hown.lt j hj).1)
   have R9 : w9.ownsRow w0.heap.size 130 2 v9 (L ++ [(p, inn)]).length (plv (X ++ [((b, o), inn)])) := by rw [plv_snoc, List.length_append]; exact hown9
   have HO : Hid (w9.ownsRow w0.heap.size 130 2 v9 (L ++ [(p, inn)]).length (plv (X ++ [((b, o), inn)]))) := R9
   have HM : Hid ((L ++ [(p, inn)]).length ≤ 12) := by unfold Hid; rw [List.length_append]; have := HL12.out; simp; omega
   have c6 := HC.out w9 hb9
   have hBb : b < w9.heap.size := World.block_lt_of_cell? w9 _ c6
   clear hg9 hown9 hown R9 hbel hsz hi hz0 hz1 hz2
   obtain ⟨M0, hM0⟩ : ∃ M0, L ++ [(p, inn)] = M0 := ⟨_, rfl⟩
   obtain ⟨X0, hX0⟩ : ∃ X0, X ++ [((b, o), inn)] = X0 := ⟨_, rfl⟩
   rw [hM0] at HR HX2 HO HM
   rw [hX0] at HX2 HO
   clear hM0 hX0 h12 h12' HL12
   obtain ⟨kids, hkids⟩ : ∃ kids, p.kids = kids := ⟨_, rfl⟩
   rw [hkids] at HR HC HK hKl c6
   clear hkids
   obtain ⟨nk, hnk⟩ : ∃ nk, kids.length = nk := ⟨_, rfl⟩
   have HNK : Hid (kids.length = nk) := hnk
   rw [hnk] at HC HK hKl c6
   clear hnk
   obtain ⟨own, hownn⟩ : ∃ own, L.length = own := ⟨_, rfl⟩
   rw [hownn] at HR IH
   simp only [hownn]
   clear hownn
   go_wp2_with fail
   go_loopw [0, 33] (fun lvv iv wr => ∃ (k : Nat) (M : List (PT × Int)) (X : List PX) (q : Option Addr) (n c : Nat), k ≤ nk ∧ iv = .int .i64 k ∧ lvv = .slice q n c ∧ Below w0.heap.size w0 wr ∧ Hid (wr.ownsRow w0.heap.size 130 2 (.slice q n c) M.length (plv X)) ∧ Hid (PLs w0 X M) ∧ Hid (M.length ≤ 12) ∧ Hid (RES = putAll (f + 1) (depth + 1) own M (kids.drop k))) (fun _ iv _ => nk - (intOf iv).toNat)
   case atStart =>
    obtain ⟨q9, c9, rfl⟩ := owned_slice HO.out
    exact ⟨0, M0, X0, q9, M0.length, c9, Nat.zero_le _, rfl, rfl, hb9, HO, HX2, HM, HR⟩
   case round =>
    obtain ⟨k, M, X, q1, n1, c1, hk, rfl, rfl, hbr, HO, HX, HM, HR⟩ := hrel
    have c6r := HC.out wr hbr
    by_cases hlt : k < nk
    ·have hlz : (k : Int) < (nk : Int) := by omega
     have hne : kids ≠ [] := fun e => by have := HNK.out; rw [e] at this; simp at this; omega
     obtain ⟨F', b', o', -, rfl, hPk⟩ := HK.out hne
     have HPk : Hid (PAt w0 F' b' (o' + k * 7) (kids.getD k pt0)) := hPk k hlt
     have hdr : kids.drop k = kids.getD k pt0 :: kids.drop (k + 1) := by
      have hkl : k < kids.length := by rw [HNK.out]; exact hlt
      rw [List.drop_eq_getElem_cons hkl]
      simp [List.getD_eq_getElem?_getD, List.getElem?_eq_getElem hkl]
     rw [hdr] at HR
     clear hdr hPk HK
     have CI : Hid (Calls Tryz.prog 100 #[.slice q1 n1 c1, .pointer (some ⟨b', o' + k * 7, none⟩), .int .i64 (dd + 1), .int .i64 (own : Int)] wr fun e w' => PlacesPost w0 (put (f + 1) M (kids.getD k pt0) (depth + 1) (own : Int)) e w') := IH.out _ X M b' (o' + k * 7) F' _ wr HM.out hbr HO.out HX.out HPk.out
     cases hput : put (f + 1) M (kids.getD k pt0) (depth + 1) (own : Int) with
     | none =>
      have HN : Hid (RES = none) := by unfold Hid; rw [HR.out, putAll_none _ _ _ _ _ _ hput]
      rw [hput] at CI
      clear hput HR HO HX HM HPk IH
      go_wp2_with fail
      refine CI.out.mono ?_
      rintro e w2 ⟨hb2, rfl⟩
      go_wp2_with fail
      go_ret2
      show PlacesPost _ _ _ _
      rw [HN.out]
      exact ⟨hb2, rfl⟩
     | some M2 =>
      have HN : Hid (RES = putAll (f + 1) (depth + 1) own M2 (kids.drop (k + 1))) := by unfold Hid; rw [HR.out, putAll_some _ _ _ _ _ _ _ hput]
      have HM2 : Hid (M2.length ≤ 12) := (put_length _ _ _ _ _ _ HM.out hput).2
      rw [hput] at CI
      clear hput HR HO HX HM HPk IH
      go_wp2_with fail
      refine CI.out.mono ?_
      rintro e w2 ⟨hb2, v2, X2, rfl, ho2, hx2⟩
      have HO2 : Hid (w2.ownsRow w0.heap.size 130 2 v2 M2.length (plv X2)) := ho2
      have HX2 : Hid (PLs w0 X2 M2) := hx2
      clear ho2 hx2 CI
      go_wp2_with fail
      go_roundw
      case rel =>
       obtain ⟨q2, c2, rfl⟩ := owned_slice HO2.out
       exact ⟨k + 1, M2, X2, q2, M2.length, c2, by omega, by go_num, rfl, hb2, HO2, HX2, HM2, HN⟩
      case measure => simp [intOf]; omega
    ·have hlz : ¬ ((k : Int) < (nk : Int)) := by omega
     have HN : Hid (RES = some M) := by unfold Hid; rw [HR.out, List.drop_of_length_le (by rw [HNK.out]; omega), putAll_nil]
     clear HR HK IH
     go_wp2_with fail
     go_ret2
     show PlacesPost _ _ _ _
     rw [HN.out]
     exact ⟨hbr, _, X, rfl, HO.out, HX.out⟩
end Go.Proofs.YtlndhdimamnnlaaGreatDoor



namespace Go.Proofs.YtlndhdimamnnlaaGreatDoor
open Go.RowKit
def whereB (d : UInt8) (l : List UInt8) : Int := match cutB d l with | none => -1 | some x => (x.1.length : Int)
theorem whereB_none {d : UInt8} {l : List UInt8} (h : cutB d l = none) : whereB d l = -1 := by rw [whereB, h]
theorem whereB_some {d : UInt8} {l : List UInt8} {x : List UInt8 × List UInt8} (h : cutB d l = some x) : whereB d l = (x.1.length : Int) := by rw [whereB, h]
theorem indexByte_where (d : UInt8) : ∀ l : List UInt8, Lib.indexByte l d = whereB d l
 | [] => rfl
 | b :: l => by
  rw [Lib.indexByte, indexByte_where d l]
  by_cases h : b = d
  ·subst h; simp [whereB, cutB]
  ·rw [if_neg (by simpa using h)]
   cases hc : cutB d l with
   | none => simp [whereB, cutB, h, hc]
   | some x =>
    have h1 : ¬ ((x.1.length : Int) == -1) = true := by rw [beq_iff_eq]; omega
    simp only [whereB, cutB, hc, h, if_false, Option.map_some, List.length_cons]
    rw [if_neg h1]
    omega
theorem ba_cut (d : UInt8) (X : ByteArray) (n v : List UInt8) (h : X.data.toList = n ++ d :: v) : ∃ NM VL : ByteArray, X.extract 0 n.length = NM ∧ X.extract (n.length + 1) X.size = VL ∧ NM.data.toList = n ∧ VL.data.toList = v ∧ X.size = n.length + 1 + v.length := by
 have hl : X.size = n.length + 1 + v.length := by rw [Lib.size_eq, h]; simp; omega
 have e1 : (X.extract 0 n.length).data.toList = n := by rw [Lib.extract_data, h]; simp
 have e2 : (X.extract (n.length + 1) X.size).data.toList = v := by
  rw [Lib.extract_data, h, hl, show n.length + 1 + v.length - (n.length + 1) = v.length from by omega, ← List.drop_drop]
  simp
 exact ⟨_, _, rfl, rfl, e1, e2, hl⟩
theorem ba_inj {a b : ByteArray} (h : a.data.toList = b.data.toList) : a = b := ByteArray.ext (Array.toList_inj.1 h)
theorem lite_none (d : UInt8) (s : ByteArray) (w : World) (h : cutB d s.data.toList = none) :
  Calls Tryz.prog 163 #[.string s, .string ⟨#[d]⟩] w fun e w' => e = .returned (.tuple #[.string s, .string ⟨#[]⟩, .bool false]) ∧ w' = w := by
 have C := Tryz.stringslite_Index_one s d w
 rw [indexByte_where, whereB_none h] at C
 clear h
 have HC : Hid (Calls Tryz.prog 97 #[.string s, .string ⟨#[d]⟩] w fun e w' => e = .returned (.int .i64 (-1)) ∧ w' = w) := C
 clear C
 go_enter Tryz.func163, Tryz.ntmps163
 go_wp2_with fail
 refine HC.out.mono ?_
 rintro e w' ⟨rfl, hw'⟩
 have hw'' := hw'.symm
 subst hw''
 clear HC
 go_wp2
 go_ret3
 exact ⟨rfl, rfl⟩
set_option maxHeartbeats 1000000 in
theorem lite_someW (d : UInt8) (s a r : ByteArray) (w : World) (hs : s.size ≤ 9223372036854775807) (h : cutB d s.data.toList = some (a.data.toList, r.data.toList)) :
  Calls Tryz.prog 163 #[.string s, .string ⟨#[d]⟩] w fun e w' => e = .returned (.tuple #[.string a, .string r, .bool true]) ∧ Below w.heap.size w w' := by
 have C := Tryz.stringslite_Index_one s d w
 rw [indexByte_where, whereB_some h] at C
 simp only at C
 obtain ⟨A, R, h1, h2, h3, h4, h5⟩ := ba_cut d s _ _ (cutB_some d _ _ _ h).1
 have hA := ba_inj h3
 have hR := ba_inj h4
 subst hA hR
 obtain ⟨I, hI⟩ : ∃ I, I = A.data.toList.length := ⟨_, rfl⟩
 rw [← hI] at C h1 h2 h5
 have hI1 : (I : Int) < (s.size : Int) := by omega
 have hI2 : (I : Int) + 1 ≤ (s.size : Int) := by omega
 have HC : Hid (Calls Tryz.prog 97 #[.string s, .string ⟨#[d]⟩] w fun e w' => e = .returned (.int .i64 (I : Int)) ∧ w' = w) := C
 clear C h h3 h4 h5 hI
 go_enter Tryz.func163, Tryz.ntmps163
 go_wp2_with fail
 refine HC.out.mono ?_
 rintro e w' ⟨rfl, hw'⟩
 have hw'' := hw'.symm
 subst hw''
 clear HC
 go_wp2
 go_region
 go_wp2
 go_ret3
 exact ⟨rfl, (Below.refl _ _).drew⟩
theorem cut_none (d : UInt8) (s : ByteArray) (w : World) (h : cutB d s.data.toList = none) :
  Calls Tryz.prog 114 #[.string s, .string ⟨#[d]⟩] w fun e w' => e = .returned (.tuple #[.string s, .string ⟨#[]⟩, .bool false]) ∧ Below w.heap.size w w' := by
 have HC : Hid (Calls Tryz.prog 163 #[.string s, .string ⟨#[d]⟩] w fun e w' => e = .returned (.tuple #[.string s, .string ⟨#[]⟩, .bool false]) ∧ w' = w) := lite_none d s w h
 clear h
 go_enter Tryz.func114, Tryz.ntmps114
 go_wp2_with fail
 refine HC.out.mono ?_
 rintro e w' ⟨rfl, hw'⟩
 have hw'' := hw'.symm
 subst hw''
 clear HC
 go_wp2
 go_ret3
 exact ⟨rfl, Below.refl _ _⟩
theorem cut_someW (d : UInt8) (s a r : ByteArray) (w : World) (hs : s.size ≤ 9223372036854775807) (h : cutB d s.data.toList = some (a.data.toList, r.data.toList)) :
  Calls Tryz.prog 114 #[.string s, .string ⟨#[d]⟩] w fun e w' => e = .returned (.tuple #[.string a, .string r, .bool true]) ∧ Below w.heap.size w w' := by
 have HC : Hid (Calls Tryz.prog 163 #[.string s, .string ⟨#[d]⟩] w fun e w' => e = .returned (.tuple #[.string a, .string r, .bool true]) ∧ Below w.heap.size w w') := lite_someW d s a r w hs h
 clear h
 go_enter Tryz.func114, Tryz.ntmps114
 go_wp2_with fail
 refine HC.out.mono ?_
 rintro e w' ⟨rfl, hb⟩
 clear HC
 go_wp2
 go_ret3
 exact ⟨rfl, hb⟩
theorem cut_some (d : UInt8) (s a r : ByteArray) (w : World) (hs : s.size ≤ 1000000000) (h : cutB d s.data.toList = some (a.data.toList, r.data.toList)) :
  Calls Tryz.prog 114 #[.string s, .string ⟨#[d]⟩] w fun e w' => e = .returned (.tuple #[.string a, .string r, .bool true]) ∧ Below w.heap.size w w' :=
 cut_someW d s a r w (by omega) h
theorem cut_parts {d : UInt8} {s : ByteArray} {x : List UInt8 × List UInt8} (h : cutB d s.data.toList = some x) : ∃ a r : ByteArray, x = (a.data.toList, r.data.toList) ∧ s.size = a.size + 1 + r.size := by
 refine ⟨⟨x.1.toArray⟩, ⟨x.2.toArray⟩, rfl, ?_⟩
 have e := (cutB_some d s.data.toList x.1 x.2 h).1
 rw [Lib.size_eq, e, Lib.size_eq, Lib.size_eq]
 simp only [List.length_append, List.length_cons]
 omega
end Go.Proofs.YtlndhdimamnnlaaGreatDoor



namespace Go.Proofs.YtlndhdimamnnlaaGreatDoor
open Go.RowKit
def upR (x : Nat) : Bool := decide (65 ≤ x) && decide (x ≤ 90)
def badR (x : Nat) : Bool := decide (x < 33) || decide (126 < x) || decide (x = 34) || decide (x = 60) || decide (x = 62)
theorem upR_any (x : Nat) (hx : x ≤ 1114111) (w : World) :
  Calls Tryz.prog 196 #[.int .i32 (x : Int)] w fun e w' => e = .returned (.bool (upR x)) ∧ ∃ q, w' = w.drewN q := by
 by_cases h1 : 65 ≤ x
 ·have e1 : (65 : Int) ≤ (x : Int) := by omega
  by_cases h2 : x ≤ 90
  ·have e2 : (x : Int) ≤ 90 := by omega
   have HO : Hid (upR x = true) := by unfold Hid upR; simp [h1, h2]
   go_enter Tryz.func196, Tryz.ntmps196
   go_wp2
   go_ret
   exact ⟨by rw [HO.out]; rfl, 0, rfl⟩
  ·have e2 : decide ((x : Int) ≤ 90) = false := by simp; omega
   have HO : Hid (upR x = false) := by unfold Hid upR; simp; omega
   go_enter Tryz.func196, Tryz.ntmps196
   go_wp2
   go_ret
   exact ⟨by rw [HO.out]; rfl, 0, rfl⟩
 ·have e1 : decide ((65 : Int) ≤ (x : Int)) = false := by simp; omega
  have HO : Hid (upR x = false) := by unfold Hid upR; simp; omega
  go_enter Tryz.func196, Tryz.ntmps196
  go_wp2
  go_ret
  exact ⟨by rw [HO.out]; rfl, 0, rfl⟩
theorem badR_any (x : Nat) (hx : x ≤ 1114111) (w : World) :
  Calls Tryz.prog 198 #[.int .i32 (x : Int)] w fun e w' => e = .returned (.bool (badR x)) ∧ ∃ q, w' = w.drewN q := by
 have HO : Hid (badR x = (decide ((x : Int) < 33) || decide (126 < (x : Int)) || decide ((x : Int) = 34) || decide ((x : Int) = 60) || decide ((x : Int) = 62))) := by
  unfold Hid badR
  have a1 : decide ((x : Int) < 33) = decide (x < 33) := decide_eq_decide.2 (by omega)
  have a2 : decide (126 < (x : Int)) = decide (126 < x) := decide_eq_decide.2 (by omega)
  have a3 : decide ((x : Int) = 34) = decide (x = 34) := decide_eq_decide.2 (by omega)
  have a4 : decide ((x : Int) = 60) = decide (x = 60) := decide_eq_decide.2 (by omega)
  have a5 : decide ((x : Int) = 62) = decide (x = 62) := decide_eq_decide.2 (by omega)
  rw [a1, a2, a3, a4, a5]
 go_enter Tryz.func198, Tryz.ntmps198
 go_wp2
 all_goals (
  go_ret
  refine ⟨ret_bool ?_, 0, rfl⟩
  rw [HO.out, Bool.eq_iff_iff]
  simp
  try omega)
theorem decode_high (s : ByteArray) (pos : Nat) (h : 128 ≤ (s.get! pos).toNat) : 128 ≤ (Utf8.decode s pos).1 := by
 rw [Lib.decode_at]
 have hb := UInt8.toNat_lt (s.get! pos)
 generalize (s.get! pos).toNat = b0 at *
 unfold Lib.decodeN
 repeat' split
 all_goals (simp only; omega)
theorem idx_bytes (p : Nat → Bool) (s : ByteArray) (hp : (∀ x, 128 ≤ x → p x = true) ∨ ∀ c ∈ s.data.toList, c.toNat < 128) : ∀ (f pos : Nat), s.size ≤ pos + f → decide (0 ≤ Lib.idxFuncFrom p true s f pos) = (s.data.toList.drop pos).any (fun c => p c.toNat)
 | 0, pos, h => by
  rw [List.drop_eq_nil_of_le (by rw [← Lib.size_eq]; omega)]; rfl
 | f + 1, pos, h => by
  rw [Lib.idxFuncFrom]
  by_cases hlt : pos < s.size
  ·rw [if_pos hlt]
   have hl : pos < s.data.toList.length := by rw [← Lib.size_eq]; exact hlt
   rw [List.drop_eq_getElem_cons hl, List.any_cons]
   have e : s.data.toList[pos] = s[pos]'hlt := rfl
   have eg : s.get! pos = s[pos]'hlt := by simp [ByteArray.get!, getElem!_pos, hlt]; rfl
   rw [e]
   by_cases ha : (s[pos]'hlt).toNat < 128
   ·rw [decode_ascii s pos hlt ha]
    cases hq : p (s[pos]'hlt).toNat with
    | true => simp
    | false =>
     simp only [Bool.false_eq_true, if_false, Bool.false_or]
     exact idx_bytes p s hp f (pos + 1) (by omega)
   ·rcases hp with hp | hp
    ·rw [if_pos (hp _ (decode_high s pos (by rw [eg]; omega))), hp _ (by omega)]
     simp
    ·exact absurd (hp _ (e ▸ List.getElem_mem hl)) ha
  ·rw [if_neg hlt, List.drop_eq_nil_of_le (by rw [← Lib.size_eq]; omega)]; rfl
theorem up_func (s : ByteArray) (ha : ∀ c ∈ s.data.toList, c.toNat < 128) (w : World) :
  Calls Tryz.prog 195 #[.string s, .func (Fn.func 196) #[] #[]] w fun e w' => e = .returned (.bool (s.data.toList.any fun c => upR c.toNat)) ∧ Below w.heap.size w w' := by
 refine (Tryz.strings_ContainsFunc_runes 196 #[] (enters_of Tryz.func196 (by kernel_rfl) rfl) upR s w (fun W x hx _ => upR_any x hx W)).mono ?_
 rintro e w' ⟨rfl, hb⟩
 refine ⟨?_, hb⟩
 rw [show Lib.idxFunc upR true s = Lib.idxFuncFrom upR true s s.size 0 from rfl, idx_bytes upR s (.inr ha) s.size 0 (by omega)]
 rfl
theorem bad_func (s : ByteArray) (w : World) :
  Calls Tryz.prog 195 #[.string s, .func (Fn.func 198) #[] #[]] w fun e w' => e = .returned (.bool (s.data.toList.any fun c => badR c.toNat)) ∧ Below w.heap.size w w' := by
 refine (Tryz.strings_ContainsFunc_runes 198 #[] (enters_of Tryz.func198 (by kernel_rfl) rfl) badR s w (fun W x hx _ => badR_any x hx W)).mono ?_
 rintro e w' ⟨rfl, hb⟩
 refine ⟨?_, hb⟩
 rw [show Lib.idxFunc badR true s = Lib.idxFuncFrom badR true s s.size 0 from rfl, idx_bytes badR s (.inl fun x hx => by unfold badR; simp; omega) s.size 0 (by omega)]
 rfl
theorem any_not (l : List UInt8) : (!(l.any fun c => badR c.toNat)) = l.all wordC := by
 rw [List.not_any_eq_all_not]
 congr 1
 funext c
 have h34 : (c == 34) = decide (c.toNat = 34) := by rw [Bool.eq_iff_iff]; simp [← UInt8.toNat_inj]
 have h60 : (c == 60) = decide (c.toNat = 60) := by rw [Bool.eq_iff_iff]; simp [← UInt8.toNat_inj]
 have h62 : (c == 62) = decide (c.toNat = 62) := by rw [Bool.eq_iff_iff]; simp [← UInt8.toNat_inj]
 unfold badR wordC inB
 simp only [List.contains_cons, List.contains_nil, Bool.or_false, h34, h60, h62]
 rw [Bool.eq_iff_iff]
 simp
 omega
theorem pmany_any (s : ByteArray) (w : World) :
  Calls Tryz.prog 57 #[.string s] w fun e w' => e = .returned (.bool (manyS s.data.toList)) ∧ w' = w := by
 have C : Hid (∀ w, Calls Tryz.prog 102 #[.string s, .string ⟨#[109, 117, 108, 116, 105, 112, 97, 114, 116, 47]⟩] w fun e w' => e = .returned (.bool (manyS s.data.toList)) ∧ w' = w) := fun w => by
  refine (Tryz.strings_HasPrefix s ⟨#[109, 117, 108, 116, 105, 112, 97, 114, 116, 47]⟩ w).mono ?_
  rintro e w' ⟨rfl, rfl⟩
  exact ⟨rfl, rfl⟩
 generalize manyS s.data.toList = V at *
 go_enter Tryz.func57, Tryz.ntmps57
 go_wp2_with fail
 refine (C.out _).mono ?_
 rintro e w' ⟨rfl, hw'⟩
 have hw'' := hw'.symm
 subst hw''
 go_wp2
 go_ret
 exact ⟨rfl, rfl⟩
theorem pword_any (s : ByteArray) (w : World) (hs : s.size ≤ maxLen) :
  Calls Tryz.prog 151 #[.string s] w fun e w' => e = .returned (.bool (wordS s.data.toList)) ∧ Below w.heap.size w w' := by
 unfold maxLen at hs
 have hle := Lib.size_eq s
 by_cases h2 : s.size ≤ 120
 ·have h2' : (s.size : Int) ≤ 120 := by omega
  have HN : Hid (wordS s.data.toList = !(s.data.toList.any fun c => badR c.toNat)) := by unfold Hid wordS; rw [any_not, ← hle]; simp [h2]
  have C : Hid (∀ w, Calls Tryz.prog 195 #[.string s, .func (Fn.func 198) #[] #[]] w fun e w' => e = .returned (.bool (s.data.toList.any fun c => badR c.toNat)) ∧ Below w.heap.size w w') := fun w => bad_func s w
  generalize (s.data.toList.any fun c => badR c.toNat) = V at *
  clear hle
  go_enter Tryz.func151, Tryz.ntmps151
  go_wp2_with fail
  refine (C.out _).mono ?_
  rintro e w' ⟨rfl, hb⟩
  go_wp2
  go_ret
  exact ⟨by rw [HN.out]; cases V <;> rfl, hb⟩
 ·have h2' : decide ((s.size : Int) ≤ 120) = false := by simp; omega
  have HN : Hid (wordS s.data.toList = false) := by unfold Hid wordS; rw [← hle]; simp; omega
  clear hle
  go_enter Tryz.func151, Tryz.ntmps151
  go_wp2
  go_ret
  exact ⟨by rw [HN.out]; rfl, Below.refl _ _⟩
theorem tok_ascii (l : List UInt8) (h : tokenS l = true) : ∀ c ∈ l, c.toNat < 128 := by
 intro c hc
 unfold tokenS betw at h
 simp only [Bool.and_eq_true, List.all_eq_true] at h
 have := h.2 c hc
 unfold inB at this
 simp at this
 omega
set_option maxHeartbeats 1000000 in
theorem ptype_any (s : ByteArray) (w : World) (hs : s.size ≤ maxLen) :
  Calls Tryz.prog 149 #[.string s] w fun e w' => e = .returned (.bool (typeS s.data.toList)) ∧ Below w.heap.size w w' := by
 unfold maxLen at hs
 cases hc : cutB 47 s.data.toList with
 | none =>
  have HN : Hid (typeS s.data.toList = false) := by unfold Hid typeS; rw [hc]
  have C : Hid (∀ w, Calls Tryz.prog 114 #[.string s, .string ⟨#[47]⟩] w fun e w' => e = .returned (.tuple #[.string s, .string ⟨#[]⟩, .bool false]) ∧ Below w.heap.size w w') := fun w => cut_none 47 s w hc
  clear hc
  go_enter Tryz.func149, Tryz.ntmps149
  go_wp2_with fail
  refine (C.out _).mono ?_
  rintro e w' ⟨rfl, hb⟩
  go_wp2
  go_ret
  exact ⟨by rw [HN.out]; rfl, hb⟩
 | some x =>
  obtain ⟨a, r, hx, hsz⟩ := cut_parts hc
  subst hx
  have C : Hid (∀ w, Calls Tryz.prog 114 #[.string s, .string ⟨#[47]⟩] w fun e w' => e = .returned (.tuple #[.string a, .string r, .bool true]) ∧ Below w.heap.size w w') := fun w => cut_someW 47 s a r w (by omega) hc
  have HT : Hid (typeS s.data.toList = (tokenS a.data.toList && tokenS r.data.toList && !s.data.toList.any (fun c => decide (65 ≤ c.toNat) && decide (c.toNat ≤ 90)))) := by unfold Hid typeS; rw [hc]
  have CA : Hid (∀ w, Calls Tryz.prog 150 #[.string a] w fun e w' => e = .returned (.bool (tokenS a.data.toList)) ∧ w' = w) := fun w => htok_any a w (by unfold maxLen; omega)
  have CR : Hid (∀ w, Calls Tryz.prog 150 #[.string r] w fun e w' => e = .returned (.bool (tokenS r.data.toList)) ∧ w' = w) := fun w => htok_any r w (by unfold maxLen; omega)
  have HA : Hid (tokenS a.data.toList = true → tokenS r.data.toList = true → ∀ c ∈ s.data.toList, c.toNat < 128) := fun h1 h2 c hm => by
   rw [(cutB_some 47 _ _ _ hc).1] at hm
   rcases List.mem_append.1 hm with h | h
   ·exact tok_ascii _ h1 c h
   ·rcases List.mem_cons.1 h with h | h
    ·subst h; decide
    ·exact tok_ascii _ h2 c h
  clear hc hsz
  cases ha : tokenS a.data.toList
  ·have HN : Hid (typeS s.data.toList = false) := by unfold Hid; rw [HT.out, ha]; rfl
   rw [ha] at CA
   clear HT HA CR ha
   go_enter Tryz.func149, Tryz.ntmps149
   go_wp2_with fail
   refine (C.out _).mono ?_
   rintro e w' ⟨rfl, hb⟩
   go_wp2_with fail
   refine (CA.out _).mono ?_
   rintro e w2 ⟨rfl, hw'⟩
   have hw'' := hw'.symm
   subst hw''
   go_wp2
   go_ret
   exact ⟨by rw [HN.out]; rfl, hb⟩
  ·cases hr : tokenS r.data.toList
   ·have HN : Hid (typeS s.data.toList = false) := by unfold Hid; rw [HT.out, ha, hr]; rfl
    rw [ha] at CA
    rw [hr] at CR
    clear HT HA ha hr
    go_enter Tryz.func149, Tryz.ntmps149
    go_wp2_with fail
    refine (C.out _).mono ?_
    rintro e w' ⟨rfl, hb⟩
    go_wp2_with fail
    refine (CA.out _).mono ?_
    rintro e w2 ⟨rfl, hw'⟩
    have hw'' := hw'.symm
    subst hw''
    go_wp2_with fail
    refine (CR.out _).mono ?_
    rintro e w3 ⟨rfl, hw3⟩
    have hw4 := hw3.symm
    subst hw4
    go_wp2
    go_ret
    exact ⟨by rw [HN.out]; rfl, hb⟩
   ·have HN : Hid (typeS s.data.toList = !(s.data.toList.any fun c => upR c.toNat)) := by unfold Hid; rw [HT.out, ha, hr]; rfl
    have CU : Hid (∀ w, Calls Tryz.prog 195 #[.string s, .func (Fn.func 196) #[] #[]] w fun e w' => e = .returned (.bool (s.data.toList.any fun c => upR c.toNat)) ∧ Below w.heap.size w w') := fun w => up_func s (HA.out ha hr) w
    rw [ha] at CA
    rw [hr] at CR
    clear HT HA ha hr
    generalize (s.data.toList.any fun c => upR c.toNat) = V at *
    go_enter Tryz.func149, Tryz.ntmps149
    go_wp2_with fail
    refine (C.out _).mono ?_
    rintro e w' ⟨rfl, hb⟩
    go_wp2_with fail
    refine (CA.out _).mono ?_
    rintro e w2 ⟨rfl, hw'⟩
    have hw'' := hw'.symm
    subst hw''
    go_wp2_with fail
    refine (CR.out _).mono ?_
    rintro e w3 ⟨rfl, hw3⟩
    have hw4 := hw3.symm
    subst hw4
    go_wp2_with fail
    refine (CU.out _).mono ?_
    rintro e w5 ⟨rfl, hb5⟩
    go_wp2
    go_ret
    exact ⟨by rw [HN.out]; cases V <;> rfl, hb.trans (hb5.mono hb.size)⟩
end Go.Proofs.YtlndhdimamnnlaaGreatDoor


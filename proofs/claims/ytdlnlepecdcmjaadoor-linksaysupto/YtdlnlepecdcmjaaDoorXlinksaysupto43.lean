/- link's Put: what the plain function says, in new memory; nothing that was there is changed. -/
import Derived.Test.YtdlnlepecdcmjaaDoorXlinksaysupto18
import Derived.Test.YtdlnlepecdcmjaaDoorXlinksaysupto4
namespace Go.Proofs.YtdlnlepecdcmjaaDoor
open Go.RowKit

/-- What Put answers. -/
def PutPost (w : World) (r : List UInt8 × Nat) (e : Ending) (w' : World) : Prop := Below w.heap.size w w' ∧
  ((r.2 ≠ 0 ∧ e = .returned (.tuple #[.slice none 0 0, .int .i64 (r.2 : Int)])) ∨ (r.2 = 0 ∧ ∃ v, e = .returned (.tuple #[v, .int .i64 0]) ∧ w'.ownsRow w.heap.size 5 1 v r.1.length (bv r.1)))
theorem tls_all (ts : List ByteArray) (k : Nat) (h : k < ts.length) : ((tls ts).drop k).all plainT = (plainT (ts.getD k ⟨#[]⟩).data.toList && ((tls ts).drop (k + 1)).all plainT) := by
  rw [drop_at (tls ts) k [] (by simp [tls]; exact h), List.all_cons]
  congr 2
  simp [tls, List.getD_eq_getElem?_getD, List.getElem?_eq_getElem h]
theorem FillPost.put {w w1 w' : World} {out : List UInt8} {e : Ending} (h : FillPost w1 out e w') (hb : Below w.heap.size w w1) : PutPost w (if 4000 < out.length then ([], 2) else (out, 0)) e w' := by
  obtain ⟨h1, h2⟩ := h
  refine ⟨hb.trans (h1.mono hb.size), ?_⟩
  rcases h2 with ⟨h3, rfl⟩ | ⟨h3, v, rfl, h4⟩
  · left; rw [if_pos h3]; exact ⟨by decide, rfl⟩
  · right; rw [if_neg (by omega)]; exact ⟨rfl, v, rfl, ownsRow_base h4 hb.size⟩
set_option maxHeartbeats 8000000 in
set_option maxRecDepth 100000 in
theorem put_any (w0 : World) (HE : LEnv w0) (q : Option Addr) (n c : Nat) (b : List UInt8) (en : n = b.length) (hnc : n ≤ c) (hcm : c ≤ maxLen) (a2 : Option Addr) (m c2 : Nat) (ts : List ByteArray) (et : m = ts.length) (hmm : m ≤ maxLen) (hts : ∀ t ∈ ts, t.size ≤ maxLen)
    (w : World) (hb : Below w0.heap.size w0 w) (hr : BRow w q b) (hq : q = none → n = 0 ∧ c = 0) (hs : TxRow w a2 ts) :
    Calls Tryd.prog 5 #[.slice q n c, .slice a2 m c2] w fun e w' => PutPost w (putP lowT b (tls ts)) e w' := by
  have CF : Hid (Calls Tryd.prog 4 #[.slice q n c] w fun e w' => FindPost w b.length (findP lowT b) e w') := find_any w0 HE q n c b en w hb hr hq
  cases hf : findP lowT b with
  | none =>
    rw [hf] at CF
    have HN : Hid (putP lowT b (tls ts) = ([], 2)) := by unfold Hid putP; rw [hf]
    clear hf HE hts en et hq hs hr
    go_enter Tryd.func5, Tryd.ntmps5
    go_wp2_with fail
    refine CF.out.mono ?_
    rintro e w1 ⟨hb1, rfl⟩
    clear CF
    go_wp2_with fail
    go_ret2
    show PutPost _ _ _ _
    rw [HN.out]
    exact ⟨hb1, .inl ⟨by decide, rfl⟩⟩
  | some l =>
    rw [hf] at CF
    obtain ⟨ho, hl60, hb4⟩ := find_ord lowT b l hf
    have hleft := findP_left lowT b l hf
    by_cases hml : m = l.length
    · have CP : Hid (∀ (k : Nat) (W : World), k < m → Calls Tryd.prog 13 #[.string (ts.getD k ⟨#[]⟩)] W fun e w' => e = .returned (.bool (plainT (ts.getD k ⟨#[]⟩).data.toList)) ∧ w' = W) := fun k W hk => plain_any _ W (hts _ (by rw [List.getD_eq_getElem?_getD, List.getElem?_eq_getElem (by omega)]; exact List.getElem_mem _))
      have HS : Hid (TxRow w a2 ts) := hs
      have HA : Hid (∀ k, k < m → ((tls ts).drop k).all plainT = (plainT (ts.getD k ⟨#[]⟩).data.toList && ((tls ts).drop (k + 1)).all plainT)) := fun k hk => tls_all ts k (by omega)
      have HZ : Hid (((tls ts).drop m).all plainT = true) := by unfold Hid; rw [List.drop_of_length_le (by simp [tls]; omega)]; rfl
      have HBAD : Hid ((tls ts).all plainT = false → putP lowT b (tls ts) = ([], 1)) := fun h => by
        unfold putP; rw [hf]; simp only
        rw [if_neg (by simp [tls]; omega), if_pos h]
      have HOKK : Hid ((tls ts).all plainT = true → putP lowT b (tls ts) = if 4000 < (fillP l (tls ts) b).length then ([], 2) else (fillP l (tls ts) b, 0)) := fun h => by
        unfold putP; rw [hf]; simp only
        rw [if_neg (by simp [tls]; omega), if_neg (by rw [h]; decide)]
      have HF : Hid (∀ a1 c1 W, l.length ≤ c1 → c1 ≤ maxLen → Below w.heap.size w W → KRow W a1 b.length l → Calls Tryd.prog 14 #[.slice q n c, .slice a1 m c1, .slice a2 m c2] W fun e w' => FillPost W (fillP l (tls ts) b) e w') := fun a1 c1 W h1 h2 h3 h4 =>
        filled_any q n c b en (by omega) hnc hcm a1 m c1 l hml h2 (by omega) a2 c2 ts et hts W (hr.below h3) hq (en ▸ h4) (hs.below h3) (en ▸ ho) hleft
      have HTM : Hid (m = ts.length) := et
      unfold maxLen at hmm
      have hm60 : m ≤ 60 := by omega
      unfold FindPost at CF
      simp only at CF
      rw [← hml] at CF
      have HML : Hid (m = l.length) := hml
      clear hf HE hts en et hq hs hr ho hleft hml hcm
      go_enter Tryd.func5, Tryd.ntmps5
      go_wp2_with fail
      refine CF.out.mono ?_
      rintro e w1 ⟨hb1, v1, rfl, own1⟩
      have own1' : w1.ownsRow w.heap.size 33 3 v1 l.length (lv b.length l) := by rw [← HML.out]; exact own1
      obtain ⟨a1, c1, rfl, h1a, h1b, h1n, hk1⟩ := owned_links own1'
      rw [← HML.out]
      have HK : Hid (KRow w1 a1 b.length l) := hk1
      have HS1 : Hid (TxRow w1 a2 ts) := HS.out.below hb1
      clear CF own1 own1' hk1 HS
      go_wp2_with fail
      go_loop [25] (fun iv => ∃ k : Nat, k ≤ m ∧ iv = .int .i64 k ∧ Hid (((tls ts).drop k).all plainT = (tls ts).all plainT)) (fun iv => m - (intOf iv).toNat)
      case atStart => exact ⟨0, Nat.zero_le _, rfl, rfl⟩
      case round =>
        obtain ⟨k, hk, rfl, HQ⟩ := hrel
        by_cases hlt : k < m
        · obtain ⟨bt, ot, e2, hct⟩ := HS1.out (fun e => by have := HTM.out; rw [e] at this; simp at this; omega)
          subst e2
          have k3 := hct k (by rw [← HTM.out]; exact hlt)
          have hki : (k : Int) < (m : Int) := by omega
          have HC : Hid (∀ W, Calls Tryd.prog 13 #[.string (ts.getD k ⟨#[]⟩)] W fun e w' => e = .returned (.bool (plainT (ts.getD k ⟨#[]⟩).data.toList)) ∧ w' = W) := fun W => CP.out k W hlt
          have HAK := HA.out k hlt
          have hwk : IntKind.i64.wrap ((k : Int) + 1) = ((k + 1 : Nat) : Int) := by rw [IntKind.wrap_i64]; omega
          clear hct
          generalize ts.getD k ⟨#[]⟩ = T at *
          cases hp : plainT T.data.toList with
          | true =>
            rw [hp] at HC HAK
            have HN : Hid (((tls ts).drop (k + 1)).all plainT = (tls ts).all plainT) := by unfold Hid; rw [← HQ.out, HAK]; rfl
            clear HAK HQ hp
            go_wp2_with fail
            refine (HC.out _).mono ?_
            rintro e w3 ⟨rfl, hw3⟩
            have hw4 := hw3.symm
            subst hw4
            go_wp2_with fail
            go_round
            case rel => exact ⟨k + 1, by omega, by go_num, HN⟩
            case measure => simp [intOf]; omega
          | false =>
            rw [hp] at HC HAK
            have HN : Hid (putP lowT b (tls ts) = ([], 1)) := HBAD.out (by rw [← HQ.out, HAK]; rfl)
            clear HAK HQ hp
            go_wp2_with fail
            refine (HC.out _).mono ?_
            rintro e w3 ⟨rfl, hw3⟩
            have hw4 := hw3.symm
            subst hw4
            go_wp2_with fail
            go_ret2
            show PutPost _ _ _ _
            rw [HN.out]
            exact ⟨hb1, .inl ⟨by decide, rfl⟩⟩
        · obtain rfl : k = m := by omega
          have HN := HOKK.out (by rw [← HQ.out]; exact HZ.out)
          have HNN : Hid (putP lowT b (tls ts) = if 4000 < (fillP l (tls ts) b).length then ([], 2) else (fillP l (tls ts) b, 0)) := HN
          clear HN HQ
          go_wp2_with fail
          refine (HF.out a1 c1 w1 (by have := HML.out; omega) h1b hb1 HK.out).mono ?_
          rintro e w3 hpo
          obtain ⟨hb3, hd⟩ := hpo
          rcases hd with ⟨h4, rfl⟩ | ⟨h4, v3, rfl, own3⟩
          · have HPP : Hid (PutPost w (putP lowT b (tls ts)) (.returned (.tuple #[.slice none 0 0, .int .i64 2])) w3) := by
              unfold Hid
              rw [HNN.out]
              exact FillPost.put ⟨hb3, .inl ⟨h4, rfl⟩⟩ hb1
            go_wp2_with fail
            go_ret2
            exact HPP.out
          · have HPP : Hid (PutPost w (putP lowT b (tls ts)) (.returned (.tuple #[v3, .int .i64 0])) w3) := by
              unfold Hid
              rw [HNN.out]
              exact FillPost.put ⟨hb3, .inr ⟨h4, v3, rfl, own3⟩⟩ hb1
            go_wp2_with fail
            go_ret2
            exact HPP.out
    · have HN : Hid (putP lowT b (tls ts) = ([], 4)) := by
        unfold Hid putP; rw [hf]; simp only
        rw [if_pos (by simp [tls]; omega)]
      have hne : ((m : Int) == (l.length : Int)) = false := by rw [beq_eq_false_iff_ne]; omega
      have hne' : ¬ (m : Int) = (l.length : Int) := by omega
      unfold FindPost at CF
      simp only at CF
      clear hf HE hts en et hq hs hr ho hleft hml
      generalize l.length = nl at *
      go_enter Tryd.func5, Tryd.ntmps5
      go_wp2_with fail
      refine CF.out.mono ?_
      rintro e w1 ⟨hb1, v1, rfl, own1⟩
      obtain ⟨a1, c1, rfl, _⟩ := slice_of own1
      clear CF own1
      go_wp2_with fail
      go_ret2
      show PutPost _ _ _ _
      rw [HN.out]
      exact ⟨hb1, .inl ⟨by decide, rfl⟩⟩
end Go.Proofs.YtdlnlepecdcmjaaDoor

/- The reference's between: what the plain function says; the world is as it was. Condition: the text is not too long. -/
namespace Go.Proofs.YtdlnlepecdcmjaaDoor
open Go.RowKit

set_option maxHeartbeats 1000000 in
theorem between_big (s but : ByteArray) (bl : List UInt8) (hbut : but.data.toList = bl) (lo hi : Nat) (loi hii : Int) (e1 : loi = (lo : Int)) (e2 : hii = (hi : Int)) (w : World) (hs : s.size ≤ 2000000) :
    Calls Tryd.prog 26 #[.string s, .int .u8 loi, .int .u8 hii, .string but] w fun e w' => e = .returned (.bool (betw lo hi bl s.data.toList)) ∧ w' = w := by
  subst e1 e2
  go_enter Tryd.func26, Tryd.ntmps26
  go_wp2
  go_loop [12] (fun iv => ∃ k : Nat, k ≤ s.size ∧ iv = .int .i64 k ∧ Hid (betw lo hi bl (s.data.toList.drop k) = betw lo hi bl s.data.toList)) (fun iv => s.size - (intOf iv).toNat)
  case atStart => exact ⟨0, Nat.zero_le _, rfl, rfl⟩
  case round =>
    obtain ⟨k, hk, rfl, HK⟩ := hrel
    by_cases hlt : k < s.size
    · have hdr : Hid (betw lo hi bl (s.data.toList.drop k) = (inB lo hi bl s[k] && betw lo hi bl (s.data.toList.drop (k + 1)))) := by unfold Hid; rw [dropB s k hlt, betw_cons]
      by_cases h1 : s[k].toNat < lo
      · have HN : Hid (betw lo hi bl s.data.toList = false) := by
          unfold Hid
          rw [← HK.out, hdr.out, show inB lo hi bl s[k] = false from by simp [inB]; omega]; rfl
        have h1' : (s[k].toNat : Int) < (lo : Int) := by omega
        clear hdr HK
        go_wp2
        go_ret
        exact ⟨by rw [HN.out]; rfl, rfl⟩
      · have h1' : decide ((s[k].toNat : Int) < (lo : Int)) = false := by simp; omega
        by_cases h2 : hi < s[k].toNat
        · have HN : Hid (betw lo hi bl s.data.toList = false) := by
            unfold Hid
            rw [← HK.out, hdr.out, show inB lo hi bl s[k] = false from by simp [inB]; omega]; rfl
          have h2' : (hi : Int) < (s[k].toNat : Int) := by omega
          clear hdr HK
          go_wp2
          go_ret
          exact ⟨by rw [HN.out]; rfl, rfl⟩
        · have h2' : decide ((hi : Int) < (s[k].toNat : Int)) = false := by simp; omega
          cases h3 : bl.contains s[k]
          · have HN : Hid (betw lo hi bl (s.data.toList.drop (k + 1)) = betw lo hi bl s.data.toList) := by
              unfold Hid
              rw [← HK.out, hdr.out, show inB lo hi bl s[k] = true from by simp only [inB, h3]; simp; omega]; rfl
            clear hdr HK
            go_wp2_with (go_at_call 16; refine (ix_any but bl hbut s[k] _ rfl _).mono ?_; rintro e w' ⟨i, rfl, hi9, hw'⟩; rw [h3] at hi9; have hw'' := hw'.symm; subst hw'')
            go_round
            case rel => exact ⟨k + 1, by omega, by go_num, HN⟩
            case measure => simp [intOf]; omega
          · have HN : Hid (betw lo hi bl s.data.toList = false) := by
              unfold Hid
              rw [← HK.out, hdr.out, show inB lo hi bl s[k] = false from by simp only [inB, h3]; simp]; rfl
            clear hdr HK
            go_wp2_with (go_at_call 16; refine (ix_any but bl hbut s[k] _ rfl _).mono ?_; rintro e w' ⟨i, rfl, hi9, hw'⟩; rw [h3] at hi9; have hw'' := hw'.symm; subst hw'')
            go_ret
            exact ⟨by rw [HN.out]; rfl, rfl⟩
    · obtain rfl : k = s.size := by omega
      have HN : Hid (betw lo hi bl s.data.toList = true) := by
        unfold Hid
        rw [← HK.out, List.drop_of_length_le (by rw [← Lib.size_eq]; exact Nat.le_refl _)]; rfl
      clear HK
      go_wp2
      go_ret
      exact ⟨by rw [HN.out]; rfl, rfl⟩

end Go.Proofs.YtdlnlepecdcmjaaDoor

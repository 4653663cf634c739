/- Letters made small by the library (every rune) and by the reference (ASCII alone): the same words href and src; so the same links. No program. -/
import Derived.Test.YtdlnlepecdcmjaaDoorXlinksaysupto2
import Derived.Test.YtdlnlepecdcmjaaDoorXlinksaysupto24
import Derived.Lib.MapU
import Derived.Lib.TrimUEq
import Derived.Lib.TrimAscii
import Derived.Lib.RuneBytes
import Derived.Test.YtdlnlepecdcmjaaDoorXlinksaysupto41
namespace Go.Proofs.YtdlnlepecdcmjaaDoor

def keyL : List Int := [99, 101, 102, 104, 114, 115]
def rowOk (x : Lib.CaseRow) : Bool := decide (x.2.1 < 128) || (if x.delta 1 > 1114111 then decide (116 ≤ x.1) else decide (0 ≤ (x.1 : Int) + x.delta 1) && keyL.all fun k => decide (k < (x.1 : Int) + x.delta 1) || decide ((x.2.1 : Int) + x.delta 1 < k))
theorem rows_ok : Lib.caseT.all rowOk = true := by decide +kernel
theorem lookup_in (T : Array Lib.CaseRow) (r : Int) (h128 : 128 ≤ r) : ∀ (f lo hi i : Nat), Lib.lookupIdx T r f lo hi = some i → ∃ x ∈ T.toList, T.getD i (0, 0, 0, 0, 0) = x ∧ (x.1 : Int) ≤ r ∧ r ≤ (x.2.1 : Int)
  | 0, _, _, _, h => by cases h
  | f + 1, lo, hi, i, h => by
    unfold Lib.lookupIdx at h
    split at h
    · split at h
      · rename_i h1
        injection h with h
        subst h
        by_cases hs : (lo + hi) / 2 < T.size
        · refine ⟨T[(lo + hi) / 2], by simp, by simp [Array.getD, hs], ?_⟩
          have e : T.getD ((lo + hi) / 2) (0, 0, 0, 0, 0) = T[(lo + hi) / 2] := by simp [Array.getD, hs]
          rw [e] at h1
          exact h1
        · have e : T.getD ((lo + hi) / 2) (0, 0, 0, 0, 0) = (0, 0, 0, 0, 0) := by simp [Array.getD, hs]
          rw [e] at h1
          have := h1.2
          simp at this
          omega
      · split at h
        · exact lookup_in T r h128 f _ _ i h
        · exact lookup_in T r h128 f _ _ i h
    · cases h
theorem lower_far (r : Int) (h : 128 ≤ r) : 0 ≤ Lib.toLowerU r ∧ ∀ k ∈ keyL, Lib.toLowerU r ≠ k := by
  unfold Lib.toLowerU
  rw [if_neg (by omega)]
  unfold Lib.toR Lib.lookupGo
  cases hl : Lib.lookupIdx Lib.caseA r (Lib.caseA.size + 1) 0 Lib.caseA.size with
  | none =>
    refine ⟨by simp; omega, fun k hk => ?_⟩
    simp only [Option.map_none]
    simp [keyL] at hk
    omega
  | some i =>
    obtain ⟨x, hx, e, h1, h2⟩ := lookup_in Lib.caseA r h _ _ _ i hl
    simp only [Option.map_some, e]
    have hx' : x ∈ Lib.caseT := by simpa [Lib.caseA] using hx
    have ok := List.all_eq_true.1 rows_ok x hx'
    unfold rowOk at ok
    rw [Bool.or_eq_true] at ok
    rcases ok with ok | ok
    · have := of_decide_eq_true ok
      omega
    · unfold Lib.convertR
      split at ok
      · rename_i hd
        rw [if_pos hd]
        have := of_decide_eq_true ok
        refine ⟨by omega, fun k hk => ?_⟩
        simp [keyL] at hk
        omega
      · rename_i hd
        rw [if_neg hd]
        rw [Bool.and_eq_true, List.all_eq_true] at ok
        have h0 := of_decide_eq_true ok.1
        refine ⟨by omega, fun k hk => ?_⟩
        have := ok.2 k hk
        rw [Bool.or_eq_true, decide_eq_true_eq, decide_eq_true_eq] at this
        omega
theorem decode_far (c : UInt8) (t : List UInt8) (h : 128 ≤ c.toNat) : 128 ≤ (Lib.decodeL (c :: t)).1 := by
  rw [Lib.decodeL_N]
  show 128 ≤ (Lib.decodeN _ c.toNat _ _ _).1
  unfold Lib.decodeN
  grind
theorem enc_far (x : Int) (h : 128 ≤ x) : ∃ b t, Lib.encodeRune x = b :: t ∧ 128 ≤ b.toNat := by
  unfold Lib.encodeRune
  by_cases h1 : x ≤ 2047
  · rw [Lib.encodeRuneZ_two h h1]
    refine ⟨_, _, rfl, ?_⟩
    show 128 ≤ ((192 + x / 64).toNat % 256)
    omega
  · by_cases h2 : (2048 ≤ x ∧ x < 55296) ∨ (57343 < x ∧ x ≤ 65535)
    · rw [Lib.encodeRuneZ_three h2]
      refine ⟨_, _, rfl, ?_⟩
      show 128 ≤ ((224 + x / 4096).toNat % 256)
      omega
    · by_cases h3 : 65536 ≤ x ∧ x ≤ 1114111
      · rw [Lib.encodeRuneZ_four h3.1 h3.2]
        refine ⟨_, _, rfl, ?_⟩
        show 128 ≤ ((240 + x / 262144).toNat % 256)
        omega
      · rw [Lib.encodeRuneZ_bad (by omega)]
        exact ⟨239, _, rfl, by decide⟩
theorem lower_near (c : UInt8) (h : c.toNat < 128) : 0 ≤ Lib.toLowerU (c.toNat : Int) ∧ Lib.encodeRune (Lib.toLowerU (c.toNat : Int)) = [lowU c] := by
  have e : Lib.toLowerU (c.toNat : Int) = ((lowU c).toNat : Int) := by
    unfold Lib.toLowerU lowU isUpB
    rw [if_pos (by omega)]
    by_cases hu : 65 ≤ c.toNat ∧ c.toNat ≤ 90
    · rw [if_pos (by omega), if_pos (by simp [hu])]
      have : (c + 32).toNat = c.toNat + 32 := by rw [UInt8.toNat_add]; show (c.toNat + 32) % 256 = _; omega
      omega
    · rw [if_neg (by omega), if_neg (by simp; omega)]
  have h2 : (lowU c).toNat < 128 := by
    unfold lowU isUpB
    split
    · rename_i hu
      simp at hu
      have : (c + 32).toNat = c.toNat + 32 := by rw [UInt8.toNat_add]; show (c.toNat + 32) % 256 = _; omega
      omega
    · exact h
  refine ⟨by omega, ?_⟩
  rw [e, Lib.encodeRune, Lib.encodeRuneZ_one (by omega) (by omega)]
  simp
theorem key_near (c : UInt8) (h : (c.toNat : Int) ∈ keyL) : c.toNat < 128 := by simp [keyL] at h; omega
theorem low_same : ∀ (n : Nat) (l K : List UInt8), l.length ≤ n → (∀ c ∈ K, (c.toNat : Int) ∈ keyL) → (Lib.mapGoD Lib.toLowerU n l = K ↔ smallU l = K)
  | 0, l, K, hn, _ => by
    obtain rfl : l = [] := List.length_eq_zero_iff.1 (by omega)
    exact Iff.rfl
  | n + 1, [], K, _, _ => by rw [Lib.mapGoD, if_pos rfl]; exact Iff.rfl
  | n + 1, c :: t, K, hn, hK => by
    rw [Lib.mapGoD, if_neg (by simp)]
    by_cases hc : c.toNat < 128
    · rw [Lib.decodeL_ascii c t hc, if_pos (lower_near c hc).1, (lower_near c hc).2]
      show lowU c :: Lib.mapGoD Lib.toLowerU n t = K ↔ lowU c :: smallU t = K
      cases K with
      | nil => simp
      | cons k K =>
        have ih := low_same n t K (by simpa using hn) (fun x hx => hK x (by simp [hx]))
        rw [List.cons.injEq, List.cons.injEq, ih]
    · have hf := decode_far c t (by omega)
      have hl := lower_far ((Lib.decodeL (c :: t)).1 : Int) (by omega)
      rw [if_pos hl.1]
      have e : smallU (c :: t) = lowU c :: smallU t := rfl
      have hlow : 128 ≤ (lowU c).toNat := by
        unfold lowU isUpB
        rw [if_neg (by simp; omega)]
        omega
      constructor
      · intro h
        exfalso
        generalize Lib.toLowerU ((Lib.decodeL (c :: t)).1 : Int) = y at *
        by_cases hy : 128 ≤ y
        · obtain ⟨b, u, eb, hb⟩ := enc_far y hy
          rw [eb] at h
          have := key_near b (hK b (by rw [← h]; simp))
          omega
        · have eb : Lib.encodeRune y = [UInt8.ofNat y.toNat] := by
            rw [Lib.encodeRune, Lib.encodeRuneZ_one hl.1 (by omega)]
            rfl
          rw [eb] at h
          have h3 := hK (UInt8.ofNat y.toNat) (by rw [← h]; simp)
          have h4 : ((UInt8.ofNat y.toNat).toNat : Int) = y := by
            have : (UInt8.ofNat y.toNat).toNat = y.toNat % 256 := rfl
            omega
          rw [h4] at h3
          exact hl.2 y h3 rfl
      · intro h
        exfalso
        rw [e] at h
        have := key_near (lowU c) (hK (lowU c) (by rw [← h]; simp))
        omega
theorem low_href (l : List UInt8) : Lib.toLowerD l = hrefL ↔ smallU l = hrefL := low_same l.length l hrefL (Nat.le_refl _) (by decide)
theorem low_src (l : List UInt8) : Lib.toLowerD l = srcL ↔ smallU l = srcL := low_same l.length l srcL (Nat.le_refl _) (by decide)
/-- Two lists of names, the same as to href and src. -/
def LikeN (a b : List (List UInt8)) : Prop := (hrefL ∈ a ↔ hrefL ∈ b) ∧ (srcL ∈ a ↔ srcL ∈ b)
theorem mine_like {a b : List (List UInt8)} (h : LikeN a b) {x y : List UInt8} (h1 : x = hrefL ↔ y = hrefL) (h2 : x = srcL ↔ y = srcL) (v : Option LK) : mineP a x v = mineP b y v := by
  unfold mineP
  cases v with
  | none => rfl
  | some k =>
    simp only
    by_cases hx : x = hrefL
    · have hy := h1.1 hx
      subst hx hy
      have : a.contains hrefL = b.contains hrefL := by rw [Bool.eq_iff_iff]; simpa using h.1
      rw [this]
    · by_cases hx2 : x = srcL
      · have hy := h2.1 hx2
        subst hx2 hy
        have : a.contains srcL = b.contains srcL := by rw [Bool.eq_iff_iff]; simpa using h.2
        rw [this]
      · have hy : ¬ y = hrefL := fun e => hx (h1.2 e)
        have hy2 : ¬ y = srcL := fun e => hx2 (h2.2 e)
        rw [if_neg (fun e => e.2.elim hx hx2), if_neg (fun e => e.2.elim hy hy2)]
theorem like_cons {a b : List (List UInt8)} (h : LikeN a b) {x y : List UInt8} (h1 : x = hrefL ↔ y = hrefL) (h2 : x = srcL ↔ y = srcL) : LikeN (x :: a) (y :: b) := by
  unfold LikeN at *
  simp only [List.mem_cons]
  exact ⟨by rw [h.1, @eq_comm _ hrefL x, h1, @eq_comm _ hrefL y], by rw [h.2, @eq_comm _ srcL x, h2, @eq_comm _ srcL y]⟩
theorem tag_like : ∀ (n : Nat) (a b : List (List UInt8)) (s : List UInt8), LikeN a b → tagF Lib.toLowerD n a s = tagF smallU n b s
  | 0, _, _, _, _ => rfl
  | n + 1, a, b, s, h => by
    unfold tagF
    cases s.dropWhile inGap with
    | nil => rfl
    | cons c t =>
      simp only
      rw [tag_like n _ _ _ (like_cons h (low_href (nameP (c :: t))) (low_src (nameP (c :: t)))), mine_like h (low_href (nameP (c :: t))) (low_src (nameP (c :: t)))]
theorem piece_like (s : List UInt8) : pieceP Lib.toLowerD s = pieceP smallU s := by
  unfold pieceP tagP
  rw [tag_like _ [] [] _ ⟨Iff.rfl, Iff.rfl⟩, tag_like _ [] [] _ ⟨Iff.rfl, Iff.rfl⟩]
theorem findF_like : ∀ (n : Nat) (acc : List LK) (s : List UInt8), findF Lib.toLowerD n acc s = findF smallU n acc s
  | 0, _, _ => rfl
  | n + 1, acc, s => by
    unfold findF
    rw [piece_like, findF_like n]
/-- The library's letters and the reference's: the same links. -/
theorem find_like (s : List UInt8) : findP Lib.toLowerD s = findP smallU s := by
  unfold findP
  rw [findF_like]
end Go.Proofs.YtdlnlepecdcmjaaDoor

/- The reference's LinksOf: the links of a page. -/
namespace Go.Proofs.YtdlnlepecdcmjaaDoor
open Go.RowKit

set_option maxRecDepth 1000000 in
set_option maxHeartbeats 4000000 in
/-- The reference's LinksOf of a page that is short enough. -/
theorem rlinks_any (w0 : World) (HE : LEnv w0) (q : Option Addr) (n c : Nat) (b : List UInt8) (en : n = b.length) (h4 : b.length ≤ 4000) (w : World) (hb : Below w0.heap.size w0 w) (hr : BRow w q b) (hq : q = none → n = 0 ∧ c = 0) :
    Calls Tryd.prog 7 #[.slice q n c] w fun e w' => FindPost w b.length (findP smallU b) e w' := by
  have hcv := conv_bytes w q n c b en hr hq
  obtain ⟨p, hp⟩ : ∃ p, p = lba b := ⟨_, rfl⟩
  have hps : p.size = b.length := by rw [hp, lba_size]
  have hpd : p.data.toList = b := by rw [hp]; rfl
  have hcv' : (convert 22 9 (.slice q n c)).run Tryd.prog w = .ok (.string p) w := by rw [hp]; exact hcv
  have hp4 : p.size ≤ 4000 := by omega
  have HPS : Hid (p.size = b.length) := hps
  have HPD : Hid (p.data.toList = b) := hpd
  clear hcv hp en hr hq hps hpd h4
  go_enter Tryd.func7, Tryd.ntmps7
  go_wp2_with fail
  obtain ⟨W1, hW1⟩ : ∃ W, W = w.alloc (.cells #[.string p] 9) := ⟨_, rfl⟩
  have hb1 : Below w.heap.size w W1 := by rw [hW1]; exact (Below.refl _ _).alloc (Nat.le_refl _) _
  have hg1 : W1.cell? ⟨w.heap.size, 0, none⟩ = some (.string p) := by rw [hW1]; simp
  have hl1 : w.heap.size < W1.heap.size := by rw [hW1]; simp
  rw [← hW1]
  clear hW1 hcv'
  refine lk1 w0 HE w.heap.size p hp4 b HPD.out W1 (hb.trans (hb1.mono hb.size)) hl1 hg1 _ _ _ _ _ _ _ _ _ _ _ _ _ _ _ _ _ _ _ _ _ _ _ _ _ _ _ _ _ _ _ _ _ _ _ _ _ _ _ _ _ _ _ _ _ _ _ _ _ _ _ _ _ _ _ _ _ _ _ _ _ _ _ _ _ _ _ _ _ _ _ _ _ _ _ _ _ _ _ _ _ _ _ _ _ _ _ _ _ _ _ _ _ _ _ _ _ _ _ _ _ _ _ _ _ _ _ _ _ _ _ _ _ _ _ _ _ _ _ _ _ _ _ _ _ _ _ _ _ _ _ _ _ _ _ _ _ _ _ _ _ _ _ _ _ _ _ _ _ _ _ _ _ _ _ _ _ _ _ _ _ _ _ _ _ _ _ _ _ _ _ _ _ _ _ _ _ _ _ _ _ _ _ _ _ _ _ _ _ _ _ _ _ _ _ _ _ _ _ _ _ _ _ _ _ _ _ _ _ _ _ _ _ _ _ _ _ _ _ _ _ _ _ _ _ _ _ _ _ _ _ _ _ _ _ _ _ _ _ _ _ _ _ _ _ _ _ _ _ _ _ _ _ _ _ _ _ _ _ _ _ _ _ _ _ _ _ _ _ _ _ _ _ _ _ _ _ _ _ _ _ _ _ _ _ _ _ _ _ _ _ _ _ _ _ _ _ _ _ _ _ _ _ _ _ _ _ _ _ _ _ _ _ _ _ _ _ _ _ _ _ _ ?_ ?_
  · intro q2 q3 q9 q10 q11 q12 q13 q14 q15 q16 q22 q23 q24 q25 q26 q27 q28 q29 q30 q31 q32 q33 q34 q35 q36 q37 q38 q39 q40 q41 q42 q43 q44 q45 q46 q47 q48 q49 q50 q51 q52 q53 q54 q55 q56 q57 q58 q59 q60 q61 q62 q63 q64 q65 q66 q67 q68 q69 q70 q71 q72 q73 q74 q75 q76 q77 q78 q79 q80 q81 q82 q83 q84 q85 q86 q87 q88 q89 q90 q91 q92 q93 q94 q95 q96 q97 q98 q99 q100 q101 q102 q103 q104 q105 q106 q107 q108 q109 q110 q111 q112 q113 q114 q115 q116 q117 q118 q119 q120 q121 q122 q123 q124 q125 q126 q127 q128 q129 q130 q131 q132 q133 q134 q135 q136 q137 q138 q139 q140 q141 q142 q143 q144 q145 q146 q147 q148 q149 q150 q151 q152 q153 q154 q155 q156 q157 q158 q159 q160 q161 q162 q163 q164 q165 q166 q167 q168 q169 q170 q171 q172 q173 q174 q175 q176 q177 q178 q179 q180 q181 q182 q183 q184 q185 q186 q187 q188 q189 q190 q191 q192 q193 q194 q195 q196 q197 q198 q199 q200 q201 q202 q203 q204 q205 q206 q207 q208 q209 q210 q211 q212 q213 q214 q215 q216 q217 q218 q219 q220 q221 q222 q223 q224 q225 q226 q227 q228 q229 q230 q231 q232 q233 q234 q235 q236 q237 q238 q239 q240 q241 q242 q243 q244 q245 q246 q247 q248 q249 q250 q251 q252 q253 q254 q255 q256 q257 q258 q259 q260 q261 q262 q263 q264 q265 q266 q267 q268 q269 q270 q271 q272 q273 q274 q275 q276 q277 q278 q279 q280 q281 q282 q283 q284 q285 q286 q287 q288 q289 q290 q291 q292 q293 q294 q295 q296 q297 q298 q299 q300 q301 q302 q303 q304 q305 q306 q307 q308 q309 q310 q311 q312 q313 q314 q315 q316 q317 q318 q319 q320 q321 q322 q323 q324 q325 v4 wr acc hf hbr hown
    have HF : Hid (FindPost w b.length (findP smallU b) (.returned (.tuple #[v4, .int .i64 0])) wr) := by
      unfold Hid FindPost
      rw [hf, ← HPS.out]
      exact ⟨hb1.trans (hbr.mono hb1.size), v4, rfl, ownsRow_base hown hb1.size⟩
    clear hf hbr hown
    go_wp2_with fail
    go_ret2
    exact HF.out
  · intro q9 q10 q11 q12 q13 q14 q15 q16 q22 q23 q24 q25 q26 q27 q28 q29 q30 q31 q32 q33 q34 q35 q36 q37 q38 q39 q40 q41 q42 q43 q44 q45 q46 q47 q48 q49 q50 q51 q52 q53 q54 q55 q56 q57 q58 q59 q60 q61 q62 q63 q64 q65 q66 q67 q68 q69 q70 q71 q72 q73 q74 q75 q76 q77 q78 q79 q80 q81 q82 q83 q84 q85 q86 q87 q88 q89 q90 q91 q92 q93 q94 q95 q96 q97 q98 q99 q100 q101 q102 q103 q104 q105 q106 q107 q108 q109 q110 q111 q112 q113 q114 q115 q116 q117 q118 q119 q120 q121 q122 q123 q124 q125 q126 q127 q128 q129 q130 q131 q132 q133 q134 q135 q136 q137 q138 q139 q140 q141 q142 q143 q144 q145 q146 q147 q148 q149 q150 q151 q152 q153 q154 q155 q156 q157 q158 q159 q160 q161 q162 q163 q164 q165 q166 q167 q168 q169 q170 q171 q172 q173 q174 q175 q176 q177 q178 q179 q180 q181 q182 q183 q184 q185 q186 q187 q188 q189 q190 q191 q192 q193 q194 q195 q196 q197 q198 q199 q200 q201 q202 q203 q204 q205 q206 q207 q208 q209 q210 q211 q212 q213 q214 q215 q216 q217 q218 q219 q220 q221 q222 q223 q224 q225 q226 q227 q228 q229 q230 q231 q232 q233 q234 q235 q236 q237 q238 q239 q240 q241 q242 q243 q244 q245 q246 q247 q248 q249 q250 q251 q252 q253 q254 q255 q256 q257 q258 q259 q260 q261 q262 q263 q264 q265 q266 q267 q268 q269 q270 q271 q272 q273 q274 q275 q276 q277 q278 q279 q280 q281 q282 q283 q284 q285 q286 q287 q288 q289 q290 q291 q292 q293 q294 q295 q296 q297 q298 q299 q300 q301 q302 q303 q304 q305 q306 q307 q308 q309 q310 q311 q312 q313 q314 q315 q316 q317 q318 q319 q320 q321 q322 q323 q324 q325 v4 wr hf hbr
    have HF : Hid (FindPost w b.length (findP smallU b) (.returned (.tuple #[.slice none 0 0, .int .i64 2])) wr) := by
      unfold Hid FindPost
      rw [hf]
      exact ⟨hb1.trans (hbr.mono hb1.size), rfl⟩
    clear hf hbr
    go_wp2_with fail
    go_ret2
    exact HF.out

end Go.Proofs.YtdlnlepecdcmjaaDoor

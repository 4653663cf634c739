
import Derived.Lib.MapU
import Derived.Lib.TrimUEq
import Derived.Lib.TrimAscii
import Derived.Lib.RuneBytes
import Derived.Test.YtbbfcbodhmeanaaGreatDoorXbundlesays40
import Derived.Test.YtbbfcbodhmeanaaGreatDoorXbundlesays35
namespace Go.Proofs.YtbbfcbodhmeanaaGreatDoor
def keyL:List Int:=[99,101,102,104,114,115]
def rowOk (x:Lib.CaseRow):Bool:=decide (x.2.1 < 128) || (if x.delta 1 > 1114111 then decide (116≤x.1) else decide (0≤(x.1:Int) + x.delta 1) && keyL.all fun k=>decide (k < (x.1:Int) + x.delta 1) || decide ((x.2.1:Int) + x.delta 1 < k))
theorem rows_ok:Lib.caseT.all rowOk = true:=by decide +kernel
theorem lookup_in (T:Array Lib.CaseRow) (r:Int) (h128:128≤r):∀ (f lo hi i:Nat),Lib.lookupIdx T r f lo hi = some i→∃ x ∈ T.toList,T.getD i (0,0,0,0,0) = x∧(x.1:Int)≤r∧r≤(x.2.1:Int)
 | 0,_,_,_,h=>by cases h
 | f + 1,lo,hi,i,h=>by
  unfold Lib.lookupIdx at h
  split at h
  ·split at h
   ·rename_i h1
    injection h with h
    subst h
    by_cases hs:(lo + hi) / 2 < T.size
    ·refine ⟨T[(lo + hi) / 2],by simp,by simp [Array.getD,hs],?_⟩
     have e:T.getD ((lo + hi) / 2) (0,0,0,0,0) = T[(lo + hi) / 2]:=by simp [Array.getD,hs]
     rw [e] at h1
     exact h1
    ·have e:T.getD ((lo + hi) / 2) (0,0,0,0,0) = (0,0,0,0,0):=by simp [Array.getD,hs]
     rw [e] at h1
     have:=h1.2
     simp at this
     omega
   ·split at h
    ·exact lookup_in T r h128 f _ _ i h
    ·exact lookup_in T r h128 f _ _ i h
  ·cases h
theorem lower_far (r:Int) (h:128≤r):0≤Lib.toLowerU r∧∀ k ∈ keyL,Lib.toLowerU r ≠ k:=by
 unfold Lib.toLowerU
 rw [if_neg (by omega)]
 unfold Lib.toR Lib.lookupGo
 cases hl:Lib.lookupIdx Lib.caseA r (Lib.caseA.size + 1) 0 Lib.caseA.size with
 | none =>
  refine ⟨by simp;omega,fun k hk=>?_⟩
  simp only [Option.map_none]
  simp [keyL] at hk
  omega
 | some i =>
  obtain ⟨x,hx,e,h1,h2⟩:=lookup_in Lib.caseA r h _ _ _ i hl
  simp only [Option.map_some,e]
  have hx':x ∈ Lib.caseT:=by simpa [Lib.caseA] using hx
  have ok:=List.all_eq_true.1 rows_ok x hx'
  unfold rowOk at ok
  rw [Bool.or_eq_true] at ok
  rcases ok with ok | ok
  ·have:=of_decide_eq_true ok
   omega
  ·unfold Lib.convertR
   split at ok
   ·rename_i hd
    rw [if_pos hd]
    have:=of_decide_eq_true ok
    refine ⟨by omega,fun k hk=>?_⟩
    simp [keyL] at hk
    omega
   ·rename_i hd
    rw [if_neg hd]
    rw [Bool.and_eq_true,List.all_eq_true] at ok
    have h0:=of_decide_eq_true ok.1
    refine ⟨by omega,fun k hk=>?_⟩
    have:=ok.2 k hk
    rw [Bool.or_eq_true,decide_eq_true_eq,decide_eq_true_eq] at this
    omega
theorem decode_far (c:UInt8) (t:List UInt8) (h:128≤c.toNat):128≤(Lib.decodeL (c::t)).1:=by
 rw [Lib.decodeL_N]
 show 128≤(Lib.decodeN _ c.toNat _ _ _).1
 unfold Lib.decodeN
 grind
theorem enc_far (x:Int) (h:128≤x):∃ b t,Lib.encodeRune x = b::t∧128≤b.toNat:=by
 unfold Lib.encodeRune
 by_cases h1:x≤2047
 ·rw [Lib.encodeRuneZ_two h h1]
  refine ⟨_,_,rfl,?_⟩
  show 128≤((192 + x / 64).toNat % 256)
  omega
 ·by_cases h2:(2048≤x∧x < 55296) ∨ (57343 < x∧x≤65535)
  ·rw [Lib.encodeRuneZ_three h2]
   refine ⟨_,_,rfl,?_⟩
   show 128≤((224 + x / 4096).toNat % 256)
   omega
  ·by_cases h3:65536≤x∧x≤1114111
   ·rw [Lib.encodeRuneZ_four h3.1 h3.2]
    refine ⟨_,_,rfl,?_⟩
    show 128≤((240 + x / 262144).toNat % 256)
    omega
   ·rw [Lib.encodeRuneZ_bad (by omega)]
    exact ⟨239,_,rfl,by decide⟩
theorem lower_near (c:UInt8) (h:c.toNat < 128):0≤Lib.toLowerU (c.toNat:Int)∧Lib.encodeRune (Lib.toLowerU (c.toNat:Int)) = [lowU c]:=by
 have e:Lib.toLowerU (c.toNat:Int) = ((lowU c).toNat:Int):=by
  unfold Lib.toLowerU lowU isUpB
  rw [if_pos (by omega)]
  by_cases hu:65≤c.toNat∧c.toNat≤90
  ·rw [if_pos (by omega),if_pos (by simp [hu])]
   have:(c + 32).toNat = c.toNat + 32:=by rw [UInt8.toNat_add];show (c.toNat + 32) % 256 = _;omega
   omega
  ·rw [if_neg (by omega),if_neg (by simp;omega)]
 have h2:(lowU c).toNat < 128:=by
  unfold lowU isUpB
  split
  ·rename_i hu
   simp at hu
   have:(c + 32).toNat = c.toNat + 32:=by rw [UInt8.toNat_add];show (c.toNat + 32) % 256 = _;omega
   omega
  ·exact h
 refine ⟨by omega,?_⟩
 rw [e,Lib.encodeRune,Lib.encodeRuneZ_one (by omega) (by omega)]
 simp
theorem key_near (c:UInt8) (h:(c.toNat:Int) ∈ keyL):c.toNat < 128:=by simp [keyL] at h;omega
theorem low_same:∀ (n:Nat) (l K:List UInt8),l.length≤n→(∀ c ∈ K,(c.toNat:Int) ∈ keyL)→(Lib.mapGoD Lib.toLowerU n l = K ↔ smallU l = K)
 | 0,l,K,hn,_=>by
  obtain rfl:l = []:=List.length_eq_zero_iff.1 (by omega)
  exact Iff.rfl
 | n + 1,[],K,_,_=>by rw [Lib.mapGoD,if_pos rfl];exact Iff.rfl
 | n + 1,c::t,K,hn,hK=>by
  rw [Lib.mapGoD,if_neg (by simp)]
  by_cases hc:c.toNat < 128
  ·rw [Lib.decodeL_ascii c t hc,if_pos (lower_near c hc).1,(lower_near c hc).2]
   show lowU c::Lib.mapGoD Lib.toLowerU n t = K ↔ lowU c::smallU t = K
   cases K with
   | nil=>simp
   | cons k K =>
    have ih:=low_same n t K (by simpa using hn) (fun x hx=>hK x (by simp [hx]))
    rw [List.cons.injEq,List.cons.injEq,ih]
  ·have hf:=decode_far c t (by omega)
   have hl:=lower_far ((Lib.decodeL (c::t)).1:Int) (by omega)
   rw [if_pos hl.1]
   have e:smallU (c::t) = lowU c::smallU t:=rfl
   have hlow:128≤(lowU c).toNat:=by
    unfold lowU isUpB
    rw [if_neg (by simp;omega)]
    omega
   constructor
   ·intro h
    exfalso
    generalize Lib.toLowerU ((Lib.decodeL (c::t)).1:Int) = y at *
    by_cases hy:128≤y
    ·obtain ⟨b,u,eb,hb⟩:=enc_far y hy
     rw [eb] at h
     have:=key_near b (hK b (by rw [← h];simp))
     omega
    ·have eb:Lib.encodeRune y = [UInt8.ofNat y.toNat]:=by
      rw [Lib.encodeRune,Lib.encodeRuneZ_one hl.1 (by omega)]
      rfl
     rw [eb] at h
     have h3:=hK (UInt8.ofNat y.toNat) (by rw [← h];simp)
     have h4:((UInt8.ofNat y.toNat).toNat:Int) = y:=by
      have:(UInt8.ofNat y.toNat).toNat = y.toNat % 256:=rfl
      omega
     rw [h4] at h3
     exact hl.2 y h3 rfl
   ·intro h
    exfalso
    rw [e] at h
    have:=key_near (lowU c) (hK (lowU c) (by rw [← h];simp))
    omega
theorem low_href (l:List UInt8):Lib.toLowerD l = hrefL ↔ smallU l = hrefL:=low_same l.length l hrefL (Nat.le_refl _) (by decide)
theorem low_src (l:List UInt8):Lib.toLowerD l = srcL ↔ smallU l = srcL:=low_same l.length l srcL (Nat.le_refl _) (by decide)
def LikeN (a b:List (List UInt8)):Prop:=(hrefL ∈ a ↔ hrefL ∈ b)∧(srcL ∈ a ↔ srcL ∈ b)
theorem mine_like {a b:List (List UInt8)} (h:LikeN a b) {x y:List UInt8} (h1:x = hrefL ↔ y = hrefL) (h2:x = srcL ↔ y = srcL) (v:Option LK):mineP a x v = mineP b y v:=by
 unfold mineP
 cases v with
 | none=>rfl
 | some k =>
  simp only
  by_cases hx:x = hrefL
  ·have hy:=h1.1 hx
   subst hx hy
   have:a.contains hrefL = b.contains hrefL:=by rw [Bool.eq_iff_iff];simpa using h.1
   rw [this]
  ·by_cases hx2:x = srcL
   ·have hy:=h2.1 hx2
    subst hx2 hy
    have:a.contains srcL = b.contains srcL:=by rw [Bool.eq_iff_iff];simpa using h.2
    rw [this]
   ·have hy:¬ y = hrefL:=fun e=>hx (h1.2 e)
    have hy2:¬ y = srcL:=fun e=>hx2 (h2.2 e)
    rw [if_neg (fun e=>e.2.elim hx hx2),if_neg (fun e=>e.2.elim hy hy2)]
theorem like_cons {a b:List (List UInt8)} (h:LikeN a b) {x y:List UInt8} (h1:x = hrefL ↔ y = hrefL) (h2:x = srcL ↔ y = srcL):LikeN (x::a) (y::b):=by
 unfold LikeN at *
 simp only [List.mem_cons]
 exact ⟨by rw [h.1,@eq_comm _ hrefL x,h1,@eq_comm _ hrefL y],by rw [h.2,@eq_comm _ srcL x,h2,@eq_comm _ srcL y]⟩
theorem tag_like:∀ (n:Nat) (a b:List (List UInt8)) (s:List UInt8),LikeN a b→tagF Lib.toLowerD n a s = tagF smallU n b s
 | 0,_,_,_,_=>rfl
 | n + 1,a,b,s,h=>by
  unfold tagF
  cases s.dropWhile inGap with
  | nil=>rfl
  | cons c t =>
   simp only
   rw [tag_like n _ _ _ (like_cons h (low_href (nameP (c::t))) (low_src (nameP (c::t)))),mine_like h (low_href (nameP (c::t))) (low_src (nameP (c::t)))]
theorem piece_like (s:List UInt8):pieceP Lib.toLowerD s = pieceP smallU s:=by
 unfold pieceP tagP
 rw [tag_like _ [] [] _ ⟨Iff.rfl,Iff.rfl⟩,tag_like _ [] [] _ ⟨Iff.rfl,Iff.rfl⟩]
theorem findF_like:∀ (n:Nat) (acc:List LK) (s:List UInt8),findF Lib.toLowerD n acc s = findF smallU n acc s
 | 0,_,_=>rfl
 | n + 1,acc,s=>by
  unfold findF
  rw [piece_like,findF_like n]
theorem find_like (s:List UInt8):findP Lib.toLowerD s = findP smallU s:=by
 unfold findP
 rw [findF_like]
end Go.Proofs.YtbbfcbodhmeanaaGreatDoor



namespace Go.Proofs.YtbbfcbodhmeanaaGreatDoor
open Go.RowKit
set_option maxRecDepth 1000000 in
set_option maxHeartbeats 4000000 in
theorem rlinks_any (w0:World) (HE:LEnv w0) (q:Option Addr) (n c:Nat) (b:List UInt8) (en:n = b.length) (h4:b.length≤4000) (w:World) (hb:Below w0.heap.size w0 w) (hr:BRow w q b) (hq:q = none→n = 0∧c = 0) :
  Calls Tryz.prog 58 #[.slice q n c] w fun e w'=>FindPost w b.length (findP smallU b) e w':=by
 have hcv:=conv_bytes w q n c b en hr hq
 obtain ⟨p,hp⟩:∃ p,p = lba b:=⟨_,rfl⟩
 have hps:p.size = b.length:=by rw [hp,lba_size]
 have hpd:p.data.toList = b:=by rw [hp];rfl
 have hcv':(convert 22 9 (.slice q n c)).run Tryz.prog w = .ok (.string p) w:=by rw [hp];exact hcv
 have hp4:p.size≤4000:=by omega
 have HPS:Hid (p.size = b.length):=hps
 have HPD:Hid (p.data.toList = b):=hpd
 clear hcv hp en hr hq hps hpd h4
 go_enter Tryz.func58,Tryz.ntmps58
 go_wp2_with fail
 obtain ⟨W1,hW1⟩:∃ W,W = w.alloc (.cells #[.string p] 9):=⟨_,rfl⟩
 have hb1:Below w.heap.size w W1:=by rw [hW1];exact (Below.refl _ _).alloc (Nat.le_refl _) _
 have hg1:W1.cell? ⟨w.heap.size,0,none⟩ = some (.string p):=by rw [hW1];simp
 have hl1:w.heap.size < W1.heap.size:=by rw [hW1];simp
 rw [← hW1]
 clear hW1 hcv'
 refine lk1 w0 HE w.heap.size p hp4 b HPD.out W1 (hb.trans (hb1.mono hb.size)) hl1 hg1 _ _ _ _ _ _ _ _ _ _ _ _ _ _ _ _ _ _ _ _ _ _ _ _ _ _ _ _ _ _ _ _ _ _ _ _ _ _ _ _ _ _ _ _ _ _ _ _ _ _ _ _ _ _ _ _ _ _ _ _ _ _ _ _ _ _ _ _ _ _ _ _ _ _ _ _ _ _ _ _ _ _ _ _ _ _ _ _ _ _ _ _ _ _ _ _ _ _ _ _ _ _ _ _ _ _ _ _ _ _ _ _ _ _ _ _ _ _ _ _ _ _ _ _ _ _ _ _ _ _ _ _ _ _ _ _ _ _ _ _ _ _ _ _ _ _ _ _ _ _ _ _ _ _ _ _ _ _ _ _ _ _ _ _ _ _ _ _ _ _ _ _ _ _ _ _ _ _ _ _ _ _ _ _ _ _ _ _ _ _ _ _ _ _ _ _ _ _ _ _ _ _ _ _ _ _ _ _ _ _ _ _ _ _ _ _ _ _ _ _ _ _ _ _ _ _ _ _ _ _ _ _ _ _ _ _ _ _ _ _ _ _ _ _ _ _ _ _ _ _ _ _ _ _ _ _ _ _ _ _ _ _ _ _ _ _ _ _ _ _ _ _ _ _ _ _ _ _ _ _ _ _ _ _ _ _ _ _ _ _ _ _ _ _ _ _ _ _ _ _ _ _ _ _ _ _ _ _ _ _ _ _ _ _ _ _ _ _ _ _ _ _ ?_ ?_
 ·intro q2 q3 q9 q10 q11 q12 q13 q14 q15 q16 q22 q23 q24 q25 q26 q27 q28 q29 q30 q31 q32 q33 q34 q35 q36 q37 q38 q39 q40 q41 q42 q43 q44 q45 q46 q47 q48 q49 q50 q51 q52 q53 q54 q55 q56 q57 q58 q59 q60 q61 q62 q63 q64 q65 q66 q67 q68 q69 q70 q71 q72 q73 q74 q75 q76 q77 q78 q79 q80 q81 q82 q83 q84 q85 q86 q87 q88 q89 q90 q91 q92 q93 q94 q95 q96 q97 q98 q99 q100 q101 q102 q103 q104 q105 q106 q107 q108 q109 q110 q111 q112 q113 q114 q115 q116 q117 q118 q119 q120 q121 q122 q123 q124 q125 q126 q127 q128 q129 q130 q131 q132 q133 q134 q135 q136 q137 q138 q139 q140 q141 q142 q143 q144 q145 q146 q147 q148 q149 q150 q151 q152 q153 q154 q155 q156 q157 q158 q159 q160 q161 q162 q163 q164 q165 q166 q167 q168 q169 q170 q171 q172 q173 q174 q175 q176 q177 q178 q179 q180 q181 q182 q183 q184 q185 q186 q187 q188 q189 q190 q191 q192 q193 q194 q195 q196 q197 q198 q199 q200 q201 q202 q203 q204 q205 q206 q207 q208 q209 q210 q211 q212 q213 q214 q215 q216 q217 q218 q219 q220 q221 q222 q223 q224 q225 q226 q227 q228 q229 q230 q231 q232 q233 q234 q235 q236 q237 q238 q239 q240 q241 q242 q243 q244 q245 q246 q247 q248 q249 q250 q251 q252 q253 q254 q255 q256 q257 q258 q259 q260 q261 q262 q263 q264 q265 q266 q267 q268 q269 q270 q271 q272 q273 q274 q275 q276 q277 q278 q279 q280 q281 q282 q283 q284 q285 q286 q287 q288 q289 q290 q291 q292 q293 q294 q295 q296 q297 q298 q299 q300 q301 q302 q303 q304 q305 q306 q307 q308 q309 q310 q311 q312 q313 q314 q315 q316 q317 q318 q319 q320 q321 q322 q323 q324 q325 v4 wr acc hf hbr hown
  have HF:Hid (FindPost w b.length (findP smallU b) (.returned (.tuple #[v4,.int .i64 0])) wr):=by
   unfold Hid FindPost
   rw [hf,← HPS.out]
   exact ⟨hb1.trans (hbr.mono hb1.size),v4,rfl,ownsRow_base hown hb1.size⟩
  clear hf hbr hown
  go_wp2_with fail
  go_ret2
  exact HF.out
 ·intro q9 q10 q11 q12 q13 q14 q15 q16 q22 q23 q24 q25 q26 q27 q28 q29 q30 q31 q32 q33 q34 q35 q36 q37 q38 q39 q40 q41 q42 q43 q44 q45 q46 q47 q48 q49 q50 q51 q52 q53 q54 q55 q56 q57 q58 q59 q60 q61 q62 q63 q64 q65 q66 q67 q68 q69 q70 q71 q72 q73 q74 q75 q76 q77 q78 q79 q80 q81 q82 q83 q84 q85 q86 q87 q88 q89 q90 q91 q92 q93 q94 q95 q96 q97 q98 q99 q100 q101 q102 q103 q104 q105 q106 q107 q108 q109 q110 q111 q112 q113 q114 q115 q116 q117 q118 q119 q120 q121 q122 q123 q124 q125 q126 q127 q128 q129 q130 q131 q132 q133 q134 q135 q136 q137 q138 q139 q140 q141 q142 q143 q144 q145 q146 q147 q148 q149 q150 q151 q152 q153 q154 q155 q156 q157 q158 q159 q160 q161 q162 q163 q164 q165 q166 q167 q168 q169 q170 q171 q172 q173 q174 q175 q176 q177 q178 q179 q180 q181 q182 q183 q184 q185 q186 q187 q188 q189 q190 q191 q192 q193 q194 q195 q196 q197 q198 q199 q200 q201 q202 q203 q204 q205 q206 q207 q208 q209 q210 q211 q212 q213 q214 q215 q216 q217 q218 q219 q220 q221 q222 q223 q224 q225 q226 q227 q228 q229 q230 q231 q232 q233 q234 q235 q236 q237 q238 q239 q240 q241 q242 q243 q244 q245 q246 q247 q248 q249 q250 q251 q252 q253 q254 q255 q256 q257 q258 q259 q260 q261 q262 q263 q264 q265 q266 q267 q268 q269 q270 q271 q272 q273 q274 q275 q276 q277 q278 q279 q280 q281 q282 q283 q284 q285 q286 q287 q288 q289 q290 q291 q292 q293 q294 q295 q296 q297 q298 q299 q300 q301 q302 q303 q304 q305 q306 q307 q308 q309 q310 q311 q312 q313 q314 q315 q316 q317 q318 q319 q320 q321 q322 q323 q324 q325 v4 wr hf hbr
  have HF:Hid (FindPost w b.length (findP smallU b) (.returned (.tuple #[.slice none 0 0,.int .i64 2])) wr):=by
   unfold Hid FindPost
   rw [hf]
   exact ⟨hb1.trans (hbr.mono hb1.size),rfl⟩
  clear hf hbr
  go_wp2_with fail
  go_ret2
  exact HF.out
end Go.Proofs.YtbbfcbodhmeanaaGreatDoor



namespace Go.Proofs.YtbbfcbodhmeanaaGreatDoor
open Go.RowKit
set_option maxRecDepth 1000000 in
set_option maxHeartbeats 16000000 in
theorem lg1 (w0:World) (hE0:LEnv w0) (ab ao wb wo n ca cw:Nat) (L:List PT) (wh:List (List UInt8)) (en:n = L.length) (w1:World) (hb0:Below w0.heap.size w0 w1) (hI:GoIn w1 w1.heap.size ab ao wb wo L wh) (hbod:∀ W,Below w1.heap.size w1 W→∀ i,i < L.length→∃ pb cb pk ck,PCells W ab (ao + i * 7) (L.getD i pt0) pb cb pk ck∧BRow W pb (L.getD i pt0).body∧(pb = none→(L.getD i pt0).body.length = 0∧cb = 0)) (h4:∀ i,i < L.length→(L.getD i pt0).body.length≤4000) (RES:Option (List GL)) (hRES:goalsGo smallU L wh 0 L [] = RES) (c0 c1 c2 c3 c8 c9 c10 c11 c12 c13 c14 c15 c16 c17 c18 c19 c20 c21 c22 c26 c27 c28 c29 c30 c31 c32 c33 c34 c35 c36 c37 c38 c39 c40 c41 c42 c43 c44 c45 c46 c47 c48 c49 c50 c51 c52 c53 c54 c55 c56 c57 c58 c59 c60 c61 c62 c63 c64 c65 c66 c67 c68 c69 c70 c71 c72 c73 c74 c75 c76 c77 c78 c79 c80 c81 c82 c83 c84 c85 c86 c87 c88 c89 c90 c91 c92 c93 c94 c95 c96 c97 c98 c99 c100 c101 c102 c103 c104 c105 c106 c107 c108 c109 c110 c111 c112 c113 c114 c115 c116 c117 c118 c119 c120 c121 c122 c123 c124 c125 c126 c127 c128 c129 c130:Value) (Q:Exit→Act→World→Prop)
  (hexit:∀ u2 u3 u8 u9 u10 u11 u12 u14 u15 u16 u17 u18 u25 u26 u27 u28 u29 u30 u31 u32 u33 u34 u35 u36 u37 u38 u39 u40 u41 u42 u43 u44 u45 u46 u47 u48 u49 u50 u51 u52 u53 u54 u55 u56 u57 u58 u59 u60 u61 u62 u63 u64 u65 u66 u67 u68 u69 u70 u71 u72 u73 u74 u75 u76 u77 u78 u79 u80 u81 u82 u83 u84 u85 u86 u87 u88 u89 u90 u91 u92 u93 u94 u95 u96 u97 u98 u99 u100 u101 u102 u103 u104 u105 u106 u107 u108 u109 u110 u111 u112 u113 u114 u115 u116 u117 u118 u119 u120 u121 u122 u123 u124 u125 u126 u127 u128 u129:Value,∀ (qy:Option Addr) (ny cy:Nat) (w':World) (acc:List GL),RES = some acc→Below w1.heap.size w1 w'→ny = acc.length→ny≤60 * n→w'.ownsRow w1.heap.size 42 6 (.slice qy ny cy) ny (glv acc)→Q (.exit 0) ⟨(c0::c1::u2::u3::.slice (some ⟨ab,ao,none⟩) n ca::.slice (some ⟨wb,wo,none⟩) n cw::.func (Fn.func 56) #[] #[]::.slice qy ny cy::u8::u9::u10::u11::u12::c13::u14::u15::u16::u17::u18::c19::c20::c21::c22::.slice (some ⟨ab,ao,none⟩) n ca::.int .i64 (n:Int)::u25::u26::u27::u28::u29::u30::u31::u32::u33::u34::u35::u36::u37::u38::u39::u40::u41::u42::u43::u44::u45::u46::u47::u48::u49::u50::u51::u52::u53::u54::u55::u56::u57::u58::u59::u60::u61::u62::u63::u64::u65::u66::u67::u68::u69::u70::u71::u72::u73::u74::u75::u76::u77::u78::u79::u80::u81::u82::u83::u84::u85::u86::u87::u88::u89::u90::u91::u92::u93::u94::u95::u96::u97::u98::u99::u100::u101::u102::u103::u104::u105::u106::u107::u108::u109::u110::u111::u112::u113::u114::u115::u116::u117::u118::u119::u120::u121::u122::u123::u124::u125::u126::u127::u128::u129::c130::[]).toArray,[]⟩ w')
  (hret:∀ u7 u8 u9 u10 u11 u12 u14 u15 u16 u17 u18 u25 u26 u27 u28 u29 u30 u31 u32 u33 u34 u35 u36 u37 u38 u39 u40 u41 u42 u43 u44 u45 u46 u47 u48 u49 u50 u51 u52 u53 u54 u55 u56 u57 u58 u59 u60 u61 u62 u63 u64 u65 u66 u67 u68 u69 u70 u71 u72 u73 u74 u75 u76 u77 u78 u79 u80 u81 u82 u83 u84 u85 u86 u87 u88 u89 u90 u91 u92 u93 u94 u95 u96 u97 u98 u99 u100 u101 u102 u103 u104 u105 u106 u107 u108 u109 u110 u111 u112 u113 u114 u115 u116 u117 u118 u119 u120 u121 u122 u123 u124 u125 u126 u127 u128 u129:Value,∀ (w':World),RES = none→Below w1.heap.size w1 w'→Q .ret ⟨(c0::c1::.slice none 0 0::.int .i64 2::.slice (some ⟨ab,ao,none⟩) n ca::.slice (some ⟨wb,wo,none⟩) n cw::.func (Fn.func 56) #[] #[]::u7::u8::u9::u10::u11::u12::c13::u14::u15::u16::u17::u18::c19::c20::c21::c22::.slice (some ⟨ab,ao,none⟩) n ca::.int .i64 (n:Int)::u25::u26::u27::u28::u29::u30::u31::u32::u33::u34::u35::u36::u37::u38::u39::u40::u41::u42::u43::u44::u45::u46::u47::u48::u49::u50::u51::u52::u53::u54::u55::u56::u57::u58::u59::u60::u61::u62::u63::u64::u65::u66::u67::u68::u69::u70::u71::u72::u73::u74::u75::u76::u77::u78::u79::u80::u81::u82::u83::u84::u85::u86::u87::u88::u89::u90::u91::u92::u93::u94::u95::u96::u97::u98::u99::u100::u101::u102::u103::u104::u105::u106::u107::u108::u109::u110::u111::u112::u113::u114::u115::u116::u117::u118::u119::u120::u121::u122::u123::u124::u125::u126::u127::u128::u129::c130::[]).toArray,[]⟩ w') :
  Code.wp Tryz.prog (Code.loop (loopAt Tryz.f14 0)) Q ⟨(c0::c1::c2::c3::.slice (some ⟨ab,ao,none⟩) n ca::.slice (some ⟨wb,wo,none⟩) n cw::.func (Fn.func 56) #[] #[]::.slice none 0 0::c8::c9::c10::c11::c12::c13::c14::c15::c16::c17::c18::c19::c20::c21::c22::.slice (some ⟨ab,ao,none⟩) n ca::.int .i64 (n:Int)::.int .i64 0::c26::c27::c28::c29::c30::c31::c32::c33::c34::c35::c36::c37::c38::c39::c40::c41::c42::c43::c44::c45::c46::c47::c48::c49::c50::c51::c52::c53::c54::c55::c56::c57::c58::c59::c60::c61::c62::c63::c64::c65::c66::c67::c68::c69::c70::c71::c72::c73::c74::c75::c76::c77::c78::c79::c80::c81::c82::c83::c84::c85::c86::c87::c88::c89::c90::c91::c92::c93::c94::c95::c96::c97::c98::c99::c100::c101::c102::c103::c104::c105::c106::c107::c108::c109::c110::c111::c112::c113::c114::c115::c116::c117::c118::c119::c120::c121::c122::c123::c124::c125::c126::c127::c128::c129::c130::[]).toArray,[]⟩ w1:=by
 have HX:Hid _:=hexit
 have HR:Hid _:=hret
 have HI:Hid (GoIn w1 w1.heap.size ab ao wb wo L wh):=hI
 have HBOD:Hid (∀ W,Below w1.heap.size w1 W→∀ i,i < L.length→∃ pb cb pk ck,PCells W ab (ao + i * 7) (L.getD i pt0) pb cb pk ck∧BRow W pb (L.getD i pt0).body∧(pb = none→(L.getD i pt0).body.length = 0∧cb = 0)):=hbod
 have H4:Hid (∀ i,i < L.length→(L.getD i pt0).body.length≤4000):=h4
 have HN:Hid (n = L.length):=en
 have HE0:Hid (LEnv w0):=hE0
 have HB0:Hid (Below w0.heap.size w0 w1):=hb0
 have HRES:Hid (goalsGo smallU L wh 0 (L.drop 0) [] = RES):=hRES
 have hn1000:n≤1000:=by rw [en];exact hI.few
 clear hexit hret hI hbod h4 en hE0 hb0 hRES
 conv=>arg 2;arg 1;whnf
 go_loopw [7,25] (fun ov iv wr=>∃ (k:Nat) (acc:List GL) (qv:Option Addr) (nv cv:Nat),k≤n∧iv = .int .i64 k∧ov = .slice qv nv cv∧Hid (nv = acc.length)∧nv≤60 * k∧Hid (Below w1.heap.size w1 wr)∧Hid (wr.ownsRow w1.heap.size 42 6 (.slice qv nv cv) nv (glv acc))∧Hid (goalsGo smallU L wh k (L.drop k) acc = RES)) (fun _ iv _=>n - (intOf iv).toNat)
 case atStart=>exact ⟨0,[],none,0,0,Nat.zero_le _,rfl,rfl,rfl,Nat.zero_le _,Below.refl _ _,World.ownsRow_nil _ _ _ _,HRES⟩
 case round =>
  obtain ⟨k,acc,qv,nv,cv,hk,rfl,rfl,HNV,hnv,HBR,HO,HG⟩:=hrel
  clear HRES
  by_cases hlt:k < n
  ·have hlz:(k:Int) < (n:Int):=by omega
   have hkl:k < L.length:=by rw [← HN.out];exact hlt
   obtain ⟨xb,xcb,xk,xck,⟨c0',c1',c2',c3',c4',c5',c6'⟩,hrow,hnil⟩:=HBOD.out wr HBR.out k hkl
   have HBO:Hid (BRow wr xb (L.getD k pt0).body∧(xb = none→(L.getD k pt0).body.length = 0∧xcb = 0)):=⟨hrow,hnil⟩
   have HB4K:Hid ((L.getD k pt0).body.length≤4000):=H4.out k hkl
   have HTEL:Hid (∀ W,Below w1.heap.size w1 W→W.cell? ⟨wb,wo + k,none⟩ = some (.string (tx8 (wh.getD k [])))):=fun W hW=>HI.out.tel W hW k hkl
   have HSKIP:Hid ((L.getD k pt0).ty.data.toList ≠ htmlS→goalsGo smallU L wh (k + 1) (L.drop (k + 1)) acc = RES):=fun hne=>by rw [← goalsGo_skip smallU L wh L k acc hkl hne];exact HG.out
   have HPAGE:Hid ((L.getD k pt0).ty.data.toList = htmlS→((findP smallU (L.getD k pt0).body).bind fun ls=>goalsGo smallU L wh (k + 1) (L.drop (k + 1)) (acc ++ ls.map (goalOf L wh k (L.getD k pt0).body.length))) = RES):=fun hne=>by rw [← goalsGo_page smallU L wh L k acc hkl hne];exact HG.out
   have HTY:Hid ((L.getD k pt0).ty.toList = (L.getD k pt0).ty.data.toList):=ByteArray.toList_eq _
   clear HG hkl hrow hnil
   generalize (L.getD k pt0).kids.length = xnk at *
   generalize (L.getD k pt0).how = xhow at *
   generalize (L.getD k pt0).body = BO at *
   obtain ⟨N,hN⟩:∃ N,BO.length = N:=⟨_,rfl⟩
   have HNB:Hid (BO.length = N):=hN
   rw [hN] at c5' HBO HPAGE
   clear hN
   generalize (L.getD k pt0).loc = xloc at *
   generalize (L.getD k pt0).id = xid at *
   generalize (L.getD k pt0).cs = xcs at *
   generalize (L.getD k pt0).ty = xty at *
   by_cases hty:xty.data.toList = htmlS
   ·have hE:(xty.toList == [116,101,120,116,47,104,116,109,108]) = true:=by rw [HTY.out,hty];rfl
    have HP':Hid (((findP smallU BO).bind fun ls=>goalsGo smallU L wh (k + 1) (L.drop (k + 1)) (acc ++ ls.map (goalOf L wh k N))) = RES):=HPAGE.out hty
    clear HSKIP HPAGE HTY hty
    obtain ⟨Wx,hWx⟩:∃ W,W = wr.alloc (.cells #[.string xty,.string xcs,.string xid,.string xloc,.int .i64 xhow,.slice xb N xcb,.slice xk xnk xck] 25):=⟨_,rfl⟩
    have hbx:Below wr.heap.size wr Wx:=by rw [hWx];exact (Below.refl _ _).alloc (Nat.le_refl _) _
    have HOx:Hid (Wx.ownsRow w1.heap.size 42 6 (.slice qv nv cv) nv (glv acc)):=ownsRow_below HO.out hbx
    have HBX:Hid (Below w1.heap.size w1 Wx):=HBR.out.trans (hbx.mono HBR.out.size)
    have CF:Hid (Calls Tryz.prog 58 #[.slice xb N xcb] Wx fun e w'=>FindPost Wx BO.length (findP smallU BO) e w'):=rlinks_any w0 HE0.out xb N xcb BO HNB.out.symm HB4K.out Wx (HB0.out.trans (HBX.out.mono HB0.out.size)) (HBO.out.1.under hbx) (by rw [← HNB.out];exact fun e=>⟨by rw [HNB.out];exact (HBO.out.2 e).1,(HBO.out.2 e).2⟩)
    clear HBO HO hbx HBR
    go_wp2_with fail
    rw [← hWx]
    clear hWx c0' c1' c2' c3' c4' c5' c6'
    refine CF.out.mono ?_
    rintro e w4 ⟨hb4,hF⟩
    clear CF
    have HB4:Hid (Below w1.heap.size w1 w4):=HBX.out.trans (hb4.mono HBX.out.size)
    have HO4:Hid (w4.ownsRow w1.heap.size 42 6 (.slice qv nv cv) nv (glv acc)):=ownsRow_below HOx.out hb4
    clear HOx hb4 HBX
    cases hfp:findP smallU BO with
    | none =>
     rw [hfp] at hF
     simp only at hF
     subst hF
     have HXN:Hid (RES = none):=by have h:=HP'.out;rw [hfp] at h;exact h.symm
     clear HP' hfp HO4
     go_wp2_with fail
     exact HR.out _ _ _ _ _ _ _ _ _ _ _ _ _ _ _ _ _ _ _ _ _ _ _ _ _ _ _ _ _ _ _ _ _ _ _ _ _ _ _ _ _ _ _ _ _ _ _ _ _ _ _ _ _ _ _ _ _ _ _ _ _ _ _ _ _ _ _ _ _ _ _ _ _ _ _ _ _ _ _ _ _ _ _ _ _ _ _ _ _ _ _ _ _ _ _ _ _ _ _ _ _ _ _ _ _ _ _ _ _ _ _ _ _ _ _ _ _ HXN.out HB4.out
    | some ls =>
     rw [hfp] at hF
     simp only at hF
     obtain ⟨v4,rfl,own4⟩:=hF
     have HLS:Hid (∀ x ∈ ls,(unamp x.2).length≤4000):=find_short ((find_like BO).trans hfp)
     have hm60:ls.length≤60:=(find_ord smallU BO ls hfp).2.1
     have HNEXT:Hid (goalsGo smallU L wh (k + 1) (L.drop (k + 1)) (acc ++ ls.map (goalOf L wh k N)) = RES):=by have h:=HP'.out;rw [hfp] at h;exact h
     clear HP' hfp
     obtain ⟨m,hm⟩:∃ m,ls.length = m:=⟨_,rfl⟩
     have HM:Hid (ls.length = m):=hm
     rw [hm] at own4 hm60
     rw [HNB.out] at own4
     obtain ⟨q4,cc4,rfl⟩:=owned_slice own4
     have HL4:Hid (w4.ownsRow Wx.heap.size 40 3 (.slice q4 m cc4) m (lv N ls)):=own4
     have tl:=HTEL.out w4 HB4.out
     clear hm own4 HTEL
     have hbe:=goE_bar (wh.getD k [])
     cases hw:wh.getD k [] with
     | nil =>
      rw [hw] at tl hbe
      have HFR:Hid (nowS = fromW wh k):=by unfold Hid fromW;rw [if_neg (by omega),Int.toNat_natCast,if_pos hw]
      have hemp:(tx8 []).toList.isEmpty = true:=hbe
      clear hbe hw
      go_wp2_with fail
      refine lg2 w1 ab ao wb wo n ca cw L wh HN.out HI.out k N Wx.heap.size m (by omega) nowS (HFR.out) acc ls HLS.out hm60 HM.out q4 cc4 w4 HB4.out HL4.out qv nv cv HNV.out hnv HO4.out _ _ _ _ _ _ _ _ _ _ _ _ _ _ _ _ _ _ _ _ _ _ _ _ _ _ _ _ _ _ _ _ _ _ _ _ _ _ _ _ _ _ _ _ _ _ _ _ _ _ _ _ _ _ _ _ _ _ _ _ _ _ _ _ _ _ _ _ _ _ _ _ _ _ _ _ _ _ _ _ _ _ _ _ _ _ _ _ _ _ _ _ _ _ _ _ _ _ _ _ _ _ _ _ _ _ _ _ _ _ _ _ _ _ _ _ _ _ _ _ _ _ _ ?_
      intro u14 u15 u16 u17 u18 u50 u51 u52 u53 u54 u55 u56 u57 u58 u59 u60 u61 u62 u63 u64 u65 u66 u67 u68 u69 u70 u71 u72 u73 u74 u75 u76 u77 u78 u79 u80 u81 u82 u83 u84 u85 u86 u87 u88 u89 u90 u91 u92 u93 u94 u95 u96 u97 u98 u99 u100 u101 u102 u103 u104 u105 u106 u107 u108 u109 u110 u111 u112 u113 u114 u115 u116 u117 u118 u119 u120 u121 u122 u123 u124 u125 u126 u127 u128 qy ny cy w9 hb9 hn9 hn69 hO9
      have HB9:Hid (Below w1.heap.size w1 w9):=hb9
      have HN9:Hid (ny = (acc ++ ls.map (goalOf L wh k N)).length):=hn9
      have HO9:Hid (w9.ownsRow w1.heap.size 42 6 (.slice qy ny cy) ny (glv (acc ++ ls.map (goalOf L wh k N)))):=hO9
      clear hb9 hn9 hO9 HO4 HL4 HB4 HNV
      go_wp2_with fail
      go_roundw
      case rel=>exact ⟨k + 1,_,qy,ny,cy,by omega,by go_num,rfl,HN9,by omega,HB9,HO9,HNEXT⟩
      case measure=>simp [intOf];omega
     | cons a l =>
      rw [hw] at tl hbe
      have HFR:Hid (a::l = fromW wh k):=by unfold Hid fromW;rw [if_neg (by omega),Int.toNat_natCast,if_neg (by rw [hw];simp),hw]
      have hemp:(tx8 (a::l)).toList.isEmpty = false:=hbe
      clear hbe hw
      generalize a::l = FR at *
      go_wp2_with fail
      refine lg2 w1 ab ao wb wo n ca cw L wh HN.out HI.out k N Wx.heap.size m (by omega) FR (HFR.out) acc ls HLS.out hm60 HM.out q4 cc4 w4 HB4.out HL4.out qv nv cv HNV.out hnv HO4.out _ _ _ _ _ _ _ _ _ _ _ _ _ _ _ _ _ _ _ _ _ _ _ _ _ _ _ _ _ _ _ _ _ _ _ _ _ _ _ _ _ _ _ _ _ _ _ _ _ _ _ _ _ _ _ _ _ _ _ _ _ _ _ _ _ _ _ _ _ _ _ _ _ _ _ _ _ _ _ _ _ _ _ _ _ _ _ _ _ _ _ _ _ _ _ _ _ _ _ _ _ _ _ _ _ _ _ _ _ _ _ _ _ _ _ _ _ _ _ _ _ _ _ ?_
      intro u14 u15 u16 u17 u18 u50 u51 u52 u53 u54 u55 u56 u57 u58 u59 u60 u61 u62 u63 u64 u65 u66 u67 u68 u69 u70 u71 u72 u73 u74 u75 u76 u77 u78 u79 u80 u81 u82 u83 u84 u85 u86 u87 u88 u89 u90 u91 u92 u93 u94 u95 u96 u97 u98 u99 u100 u101 u102 u103 u104 u105 u106 u107 u108 u109 u110 u111 u112 u113 u114 u115 u116 u117 u118 u119 u120 u121 u122 u123 u124 u125 u126 u127 u128 qy ny cy w9 hb9 hn9 hn69 hO9
      have HB9:Hid (Below w1.heap.size w1 w9):=hb9
      have HN9:Hid (ny = (acc ++ ls.map (goalOf L wh k N)).length):=hn9
      have HO9:Hid (w9.ownsRow w1.heap.size 42 6 (.slice qy ny cy) ny (glv (acc ++ ls.map (goalOf L wh k N)))):=hO9
      clear hb9 hn9 hO9 HO4 HL4 HB4 HNV
      go_wp2_with fail
      go_roundw
      case rel=>exact ⟨k + 1,_,qy,ny,cy,by omega,by go_num,rfl,HN9,by omega,HB9,HO9,HNEXT⟩
      case measure=>simp [intOf];omega
   ·have hE:(xty.toList == [116,101,120,116,47,104,116,109,108]) = false:=by rw [HTY.out,beq_eq_false_iff_ne];exact hty
    have HX':Hid (goalsGo smallU L wh (k + 1) (L.drop (k + 1)) acc = RES):=HSKIP.out hty
    clear HSKIP HPAGE HTY hty HBO HTEL
    have HO2:Hid ((wr.alloc (.cells #[.string xty,.string xcs,.string xid,.string xloc,.int .i64 xhow,.slice xb N xcb,.slice xk xnk xck] 25)).ownsRow w1.heap.size 42 6 (.slice qv nv cv) nv (glv acc)):=HO.out.alloc _
    have HB2:Hid (Below w1.heap.size w1 (wr.alloc (.cells #[.string xty,.string xcs,.string xid,.string xloc,.int .i64 xhow,.slice xb N xcb,.slice xk xnk xck] 25))):=HBR.out.alloc HBR.out.size _
    clear HO HBR
    go_wp2_with fail
    go_roundw
    case rel=>exact ⟨k + 1,acc,qv,nv,cv,by omega,by go_num,rfl,HNV,by omega,HB2,HO2,HX'⟩
    case measure=>simp [intOf];omega
  ·obtain rfl:k = n:=by omega
   have hlz:¬ (k:Int) < (k:Int):=by omega
   have HF:Hid (RES = some acc):=by
    have h:=HG.out
    rw [List.drop_of_length_le (by rw [← HN.out];omega),goalsGo] at h
    exact h.symm
   clear HG
   go_wp2_with fail
   exact HX.out _ _ _ _ _ _ _ _ _ _ _ _ _ _ _ _ _ _ _ _ _ _ _ _ _ _ _ _ _ _ _ _ _ _ _ _ _ _ _ _ _ _ _ _ _ _ _ _ _ _ _ _ _ _ _ _ _ _ _ _ _ _ _ _ _ _ _ _ _ _ _ _ _ _ _ _ _ _ _ _ _ _ _ _ _ _ _ _ _ _ _ _ _ _ _ _ _ _ _ _ _ _ _ _ _ _ _ _ _ _ _ _ _ _ _ _ _ qv nv cv _ acc HF.out HBR.out HNV.out hnv HO.out
end Go.Proofs.YtbbfcbodhmeanaaGreatDoor



namespace Go.Proofs.YtbbfcbodhmeanaaGreatDoor
def aheadR (ah:List UInt8):List UInt8:=if ah = [] then nowS else ah
def meR (ah:List UInt8) (p:PT):List UInt8:=if p.loc.data.toList = [] then aheadR ah else ledU (aheadR ah) p.loc.data.toList
def whereR:Nat→PT→List UInt8→List (List UInt8)
 | 0,_,_=>[]
 | f + 1,p,ah=>meR ah p::p.kids.flatMap fun k=>whereR f k (meR ah p)
theorem whereR_succ (f:Nat) (p:PT) (ah:List UInt8):whereR (f + 1) p ah = meR ah p::p.kids.flatMap fun k=>whereR f k (meR ah p):=by rw [whereR]
theorem meR_len (ah:List UInt8) (p:PT) (h:ah.length≤120):(aheadR ah).length≤120∧(meR ah p).length≤120:=by
 have h1:(aheadR ah).length≤120:=by
  unfold aheadR
  split
  ·decide
  ·exact h
 refine ⟨h1,?_⟩
 unfold meR
 split
 ·exact h1
 ·exact ledU_len _ _
def ahW (wh:List (List UInt8)) (inn:Int):List UInt8:=if inn < 0 then [] else wh.getD inn.toNat []
theorem step_me (wh:List (List UInt8)) (p:PT) (inn:Int):stepW wh (p,inn) = meR (ahW wh inn) p:=by
 have h:fromW wh inn = aheadR (ahW wh inn):=by
  unfold fromW aheadR ahW
  by_cases h:inn < 0
  ·rw [if_pos h,if_pos h,if_pos rfl]
  ·rw [if_neg h,if_neg h]
 unfold stepW meR
 simp only
 rw [h]
theorem ahW_at {wh r:List (List UInt8)} {n:Nat} (h:wh.length = n) (me:List UInt8):ahW (wh ++ me::r) (n:Int) = me:=by
 unfold ahW
 rw [if_neg (by omega),Int.toNat_natCast,List.getD_eq_getElem?_getD,List.getElem?_append_right (by omega),h,Nat.sub_self]
 rfl
theorem where_put:∀ (f:Nat) (l:List (PT × Int)) (p:PT) (depth:Nat) (inn:Int) (m:List (PT × Int)),put f l p depth inn = some m→whereP m = whereP l ++ whereR f p (ahW (whereP l) inn)
 | 0,_,_,_,_,_,h=>by cases h
 | f + 1,l,p,depth,inn,m,h=>by
  rw [put] at h
  split at h
  ·cases h
  ·rw [whereR_succ]
   have hme:whereP (l ++ [(p,inn)]) = whereP l ++ [meR (ahW (whereP l) inn) p]:=by rw [whereP_snoc,step_me]
   generalize meR (ahW (whereP l) inn) p = me at *
   have key:∀ (ks:List PT) (cur:List (PT × Int)) (r:List (List UInt8)),whereP cur = whereP l ++ me::r→ks.foldl (fun acc k=>acc.bind fun m=>put f m k (depth + 1) l.length) (some cur) = some m→whereP m = whereP l ++ me::(r ++ ks.flatMap fun k=>whereR f k me):=by
    intro ks
    induction ks with
    | nil =>
     intro cur r hc hm
     simp only [List.foldl_nil,Option.some.injEq] at hm
     subst hm
     simpa using hc
    | cons k ks ih =>
     intro cur r hc hm
     rw [List.foldl_cons,Option.bind_some] at hm
     cases hp:put f cur k (depth + 1) l.length with
     | none=>rw [hp,foldl_none] at hm;cases hm
     | some m2 =>
      rw [hp] at hm
      have h1:=where_put f cur k (depth + 1) l.length m2 hp
      rw [hc,ahW_at (whereP_length l) me] at h1
      have h2:=ih m2 (r ++ whereR f k me) (by rw [h1];simp) hm
      rw [h2]
      simp
   have:=key p.kids (l ++ [(p,inn)]) [] (by rw [hme]) h
   simpa using this
theorem where_places (p:PT) (h:(placesP p).1 = 0):whereP (placesP p).2 = whereR 4 p []:=by
 unfold placesP at h ⊢
 cases hp:put 4 [] p 1 (-1) with
 | none=>rw [hp] at h;cases h
 | some l =>
  rw [hp] at h
  simp only at h ⊢
  split
  ·have:=where_put 4 [] p 1 (-1) l hp
   simpa [whereP,ahW] using this
  ·rename_i h2
   rw [if_neg h2] at h
   exact absurd h h2
end Go.Proofs.YtbbfcbodhmeanaaGreatDoor



import Derived.Test.YtbbfcbodhmeanaaGreatDoorXrewritesays42
namespace Go.Proofs.YtbbfcbodhmeanaaGreatDoor
open Go.RowKit
set_option maxRecDepth 1000000 in
set_option maxHeartbeats 4000000 in
theorem rlinks_any (w0:World) (HE:LEnv w0) (q:Option Addr) (n c:Nat) (b:List UInt8) (en:n = b.length) (h4:b.length≤4000) (w:World) (hb:Below w0.heap.size w0 w) (hr:BRow w q b) (hq:q = none→n = 0∧c = 0) :
  Calls Tryz.prog 58 #[.slice q n c] w fun e w'=>FindPost w b.length (findP smallU b) e w':=by
 have hcv:=conv_bytes w q n c b en hr hq
 obtain ⟨p,hp⟩:∃ p,p = lba b:=⟨_,rfl⟩
 have hps:p.size = b.length:=by rw [hp,lba_size]
 have hpd:p.data.toList = b:=by rw [hp];rfl
 have hcv':(convert 22 9 (.slice q n c)).run Tryz.prog w = .ok (.string p) w:=by rw [hp];exact hcv
 have hp4:p.size≤4000:=by omega
 have HPS:Hid (p.size = b.length):=hps
 have HPD:Hid (p.data.toList = b):=hpd
 clear hcv hp en hr hq hps hpd h4
 go_enter Tryz.func58,Tryz.ntmps58
 go_wp2_with fail
 obtain ⟨W1,hW1⟩:∃ W,W = w.alloc (.cells #[.string p] 9):=⟨_,rfl⟩
 have hb1:Below w.heap.size w W1:=by rw [hW1];exact (Below.refl _ _).alloc (Nat.le_refl _) _
 have hg1:W1.cell? ⟨w.heap.size,0,none⟩ = some (.string p):=by rw [hW1];simp
 have hl1:w.heap.size < W1.heap.size:=by rw [hW1];simp
 rw [← hW1]
 clear hW1 hcv'
 refine lk1 w0 HE w.heap.size p hp4 b HPD.out W1 (hb.trans (hb1.mono hb.size)) hl1 hg1 _ _ _ _ _ _ _ _ _ _ _ _ _ _ _ _ _ _ _ _ _ _ _ _ _ _ _ _ _ _ _ _ _ _ _ _ _ _ _ _ _ _ _ _ _ _ _ _ _ _ _ _ _ _ _ _ _ _ _ _ _ _ _ _ _ _ _ _ _ _ _ _ _ _ _ _ _ _ _ _ _ _ _ _ _ _ _ _ _ _ _ _ _ _ _ _ _ _ _ _ _ _ _ _ _ _ _ _ _ _ _ _ _ _ _ _ _ _ _ _ _ _ _ _ _ _ _ _ _ _ _ _ _ _ _ _ _ _ _ _ _ _ _ _ _ _ _ _ _ _ _ _ _ _ _ _ _ _ _ _ _ _ _ _ _ _ _ _ _ _ _ _ _ _ _ _ _ _ _ _ _ _ _ _ _ _ _ _ _ _ _ _ _ _ _ _ _ _ _ _ _ _ _ _ _ _ _ _ _ _ _ _ _ _ _ _ _ _ _ _ _ _ _ _ _ _ _ _ _ _ _ _ _ _ _ _ _ _ _ _ _ _ _ _ _ _ _ _ _ _ _ _ _ _ _ _ _ _ _ _ _ _ _ _ _ _ _ _ _ _ _ _ _ _ _ _ _ _ _ _ _ _ _ _ _ _ _ _ _ _ _ _ _ _ _ _ _ _ _ _ _ _ _ _ _ _ _ _ _ _ _ _ _ _ _ _ _ _ _ _ _ _ ?_ ?_
 ·intro q2 q3 q9 q10 q11 q12 q13 q14 q15 q16 q22 q23 q24 q25 q26 q27 q28 q29 q30 q31 q32 q33 q34 q35 q36 q37 q38 q39 q40 q41 q42 q43 q44 q45 q46 q47 q48 q49 q50 q51 q52 q53 q54 q55 q56 q57 q58 q59 q60 q61 q62 q63 q64 q65 q66 q67 q68 q69 q70 q71 q72 q73 q74 q75 q76 q77 q78 q79 q80 q81 q82 q83 q84 q85 q86 q87 q88 q89 q90 q91 q92 q93 q94 q95 q96 q97 q98 q99 q100 q101 q102 q103 q104 q105 q106 q107 q108 q109 q110 q111 q112 q113 q114 q115 q116 q117 q118 q119 q120 q121 q122 q123 q124 q125 q126 q127 q128 q129 q130 q131 q132 q133 q134 q135 q136 q137 q138 q139 q140 q141 q142 q143 q144 q145 q146 q147 q148 q149 q150 q151 q152 q153 q154 q155 q156 q157 q158 q159 q160 q161 q162 q163 q164 q165 q166 q167 q168 q169 q170 q171 q172 q173 q174 q175 q176 q177 q178 q179 q180 q181 q182 q183 q184 q185 q186 q187 q188 q189 q190 q191 q192 q193 q194 q195 q196 q197 q198 q199 q200 q201 q202 q203 q204 q205 q206 q207 q208 q209 q210 q211 q212 q213 q214 q215 q216 q217 q218 q219 q220 q221 q222 q223 q224 q225 q226 q227 q228 q229 q230 q231 q232 q233 q234 q235 q236 q237 q238 q239 q240 q241 q242 q243 q244 q245 q246 q247 q248 q249 q250 q251 q252 q253 q254 q255 q256 q257 q258 q259 q260 q261 q262 q263 q264 q265 q266 q267 q268 q269 q270 q271 q272 q273 q274 q275 q276 q277 q278 q279 q280 q281 q282 q283 q284 q285 q286 q287 q288 q289 q290 q291 q292 q293 q294 q295 q296 q297 q298 q299 q300 q301 q302 q303 q304 q305 q306 q307 q308 q309 q310 q311 q312 q313 q314 q315 q316 q317 q318 q319 q320 q321 q322 q323 q324 q325 v4 wr acc hf hbr hown
  have HF:Hid (FindPost w b.length (findP smallU b) (.returned (.tuple #[v4,.int .i64 0])) wr):=by
   unfold Hid FindPost
   rw [hf,← HPS.out]
   exact ⟨hb1.trans (hbr.mono hb1.size),v4,rfl,ownsRow_base hown hb1.size⟩
  clear hf hbr hown
  go_wp2_with fail
  go_ret2
  exact HF.out
 ·intro q9 q10 q11 q12 q13 q14 q15 q16 q22 q23 q24 q25 q26 q27 q28 q29 q30 q31 q32 q33 q34 q35 q36 q37 q38 q39 q40 q41 q42 q43 q44 q45 q46 q47 q48 q49 q50 q51 q52 q53 q54 q55 q56 q57 q58 q59 q60 q61 q62 q63 q64 q65 q66 q67 q68 q69 q70 q71 q72 q73 q74 q75 q76 q77 q78 q79 q80 q81 q82 q83 q84 q85 q86 q87 q88 q89 q90 q91 q92 q93 q94 q95 q96 q97 q98 q99 q100 q101 q102 q103 q104 q105 q106 q107 q108 q109 q110 q111 q112 q113 q114 q115 q116 q117 q118 q119 q120 q121 q122 q123 q124 q125 q126 q127 q128 q129 q130 q131 q132 q133 q134 q135 q136 q137 q138 q139 q140 q141 q142 q143 q144 q145 q146 q147 q148 q149 q150 q151 q152 q153 q154 q155 q156 q157 q158 q159 q160 q161 q162 q163 q164 q165 q166 q167 q168 q169 q170 q171 q172 q173 q174 q175 q176 q177 q178 q179 q180 q181 q182 q183 q184 q185 q186 q187 q188 q189 q190 q191 q192 q193 q194 q195 q196 q197 q198 q199 q200 q201 q202 q203 q204 q205 q206 q207 q208 q209 q210 q211 q212 q213 q214 q215 q216 q217 q218 q219 q220 q221 q222 q223 q224 q225 q226 q227 q228 q229 q230 q231 q232 q233 q234 q235 q236 q237 q238 q239 q240 q241 q242 q243 q244 q245 q246 q247 q248 q249 q250 q251 q252 q253 q254 q255 q256 q257 q258 q259 q260 q261 q262 q263 q264 q265 q266 q267 q268 q269 q270 q271 q272 q273 q274 q275 q276 q277 q278 q279 q280 q281 q282 q283 q284 q285 q286 q287 q288 q289 q290 q291 q292 q293 q294 q295 q296 q297 q298 q299 q300 q301 q302 q303 q304 q305 q306 q307 q308 q309 q310 q311 q312 q313 q314 q315 q316 q317 q318 q319 q320 q321 q322 q323 q324 q325 v4 wr hf hbr
  have HF:Hid (FindPost w b.length (findP smallU b) (.returned (.tuple #[.slice none 0 0,.int .i64 2])) wr):=by
   unfold Hid FindPost
   rw [hf]
   exact ⟨hb1.trans (hbr.mono hb1.size),rfl⟩
  clear hf hbr
  go_wp2_with fail
  go_ret2
  exact HF.out
end Go.Proofs.YtbbfcbodhmeanaaGreatDoor



namespace Go.Proofs.YtbbfcbodhmeanaaGreatDoor
open Go.RowKit
set_option maxHeartbeats 1000000 in
theorem between_big (s but:ByteArray) (bl:List UInt8) (hbut:but.data.toList = bl) (lo hi:Nat) (loi hii:Int) (e1:loi = (lo:Int)) (e2:hii = (hi:Int)) (w:World) (hs:s.size≤2000000) :
  Calls Tryz.prog 88 #[.string s,.int .u8 loi,.int .u8 hii,.string but] w fun e w'=>e = .returned (.bool (betw lo hi bl s.data.toList))∧w' = w:=by
 subst e1 e2
 go_enter Tryz.func88,Tryz.ntmps88
 go_wp2
 go_loop [12] (fun iv=>∃ k:Nat,k≤s.size∧iv = .int .i64 k∧Hid (betw lo hi bl (s.data.toList.drop k) = betw lo hi bl s.data.toList)) (fun iv=>s.size - (intOf iv).toNat)
 case atStart=>exact ⟨0,Nat.zero_le _,rfl,rfl⟩
 case round =>
  obtain ⟨k,hk,rfl,HK⟩:=hrel
  by_cases hlt:k < s.size
  ·have hdr:Hid (betw lo hi bl (s.data.toList.drop k) = (inB lo hi bl s[k] && betw lo hi bl (s.data.toList.drop (k + 1)))):=by unfold Hid;rw [dropB s k hlt,betw_cons]
   by_cases h1:s[k].toNat < lo
   ·have HN:Hid (betw lo hi bl s.data.toList = false):=by
     unfold Hid
     rw [← HK.out,hdr.out,show inB lo hi bl s[k] = false from by simp [inB];omega];rfl
    have h1':(s[k].toNat:Int) < (lo:Int):=by omega
    clear hdr HK
    go_wp2
    go_ret
    exact ⟨by rw [HN.out];rfl,rfl⟩
   ·have h1':decide ((s[k].toNat:Int) < (lo:Int)) = false:=by simp;omega
    by_cases h2:hi < s[k].toNat
    ·have HN:Hid (betw lo hi bl s.data.toList = false):=by
      unfold Hid
      rw [← HK.out,hdr.out,show inB lo hi bl s[k] = false from by simp [inB];omega];rfl
     have h2':(hi:Int) < (s[k].toNat:Int):=by omega
     clear hdr HK
     go_wp2
     go_ret
     exact ⟨by rw [HN.out];rfl,rfl⟩
    ·have h2':decide ((hi:Int) < (s[k].toNat:Int)) = false:=by simp;omega
     cases h3:bl.contains s[k]
     ·have HN:Hid (betw lo hi bl (s.data.toList.drop (k + 1)) = betw lo hi bl s.data.toList):=by
       unfold Hid
       rw [← HK.out,hdr.out,show inB lo hi bl s[k] = true from by simp only [inB,h3];simp;omega];rfl
      clear hdr HK
      go_wp2_with (go_at_call 93;refine (ix_any but bl hbut s[k] _ rfl _).mono ?_;rintro e w' ⟨i,rfl,hi9,hw'⟩;rw [h3] at hi9;have hw'':=hw'.symm;subst hw'')
      go_round
      case rel=>exact ⟨k + 1,by omega,by go_num,HN⟩
      case measure=>simp [intOf];omega
     ·have HN:Hid (betw lo hi bl s.data.toList = false):=by
       unfold Hid
       rw [← HK.out,hdr.out,show inB lo hi bl s[k] = false from by simp only [inB,h3];simp];rfl
      clear hdr HK
      go_wp2_with (go_at_call 93;refine (ix_any but bl hbut s[k] _ rfl _).mono ?_;rintro e w' ⟨i,rfl,hi9,hw'⟩;rw [h3] at hi9;have hw'':=hw'.symm;subst hw'')
      go_ret
      exact ⟨by rw [HN.out];rfl,rfl⟩
  ·obtain rfl:k = s.size:=by omega
   have HN:Hid (betw lo hi bl s.data.toList = true):=by
    unfold Hid
    rw [← HK.out,List.drop_of_length_le (by rw [← Lib.size_eq];exact Nat.le_refl _)];rfl
   clear HK
   go_wp2
   go_ret
   exact ⟨by rw [HN.out];rfl,rfl⟩
end Go.Proofs.YtbbfcbodhmeanaaGreatDoor



namespace Go.Proofs.YtbbfcbodhmeanaaGreatDoor
open Go.RowKit
theorem tls_len (ts:List ByteArray):(tls ts).length = ts.length:=by simp [tls]
theorem tls_get (ts:List ByteArray) (k:Nat) (h:k < ts.length):(tls ts).getD k [] = (ts.getD k ⟨#[]⟩).data.toList:=by simp [tls,List.getD_eq_getElem?_getD,List.getElem?_eq_getElem h]
theorem sum_at (ts:List (List UInt8)) (k:Nat) (h:k < ts.length):(ts.getD k []).length + sumL (ts.drop (k + 1))≤sumL ts:=by
 have h1:=sumL_drop ts k
 rw [drop_at ts k [] h,sumL_cons] at h1
 exact h1
theorem empty_own (w:World) (B:Nat) (h:B≤w.heap.size):(w.alloc (.cells #[] 5)).ownsRow B 5 1 (.slice (some ⟨w.heap.size,0,none⟩) 0 0) ([]:List UInt8).length (bv []) :=
 ⟨rfl,.inr ⟨w.heap.size,0,#[],rfl,h,heap_alloc_new w _,Nat.le_refl _,by decide,rfl,rfl⟩⟩
set_option maxHeartbeats 16000000 in
set_option maxRecDepth 100000 in
theorem rput_any (w0:World) (HE:LEnv w0) (q:Option Addr) (n c:Nat) (b:List UInt8) (en:n = b.length) (h4:b.length≤4000) (a2:Option Addr) (m c2:Nat) (ts:List ByteArray) (et:m = ts.length) (hmm:m≤maxLen) (hts:sumL (tls ts)≤1100000)
  (w:World) (hb:Below w0.heap.size w0 w) (hr:BRow w q b) (hq:q = none→n = 0∧c = 0) (hs:TxRow w a2 ts) :
  Calls Tryz.prog 68 #[.slice q n c,.slice a2 m c2] w fun e w'=>PutPost w (putP smallU b (tls ts)) e w':=by
 have CF:Hid (Calls Tryz.prog 58 #[.slice q n c] w fun e w'=>FindPost w b.length (findP smallU b) e w'):=rlinks_any w0 HE q n c b en h4 w hb hr hq
 cases hf:findP smallU b with
 | none =>
  rw [hf] at CF
  have HN:Hid (putP smallU b (tls ts) = ([],2)):=by unfold Hid putP;rw [hf]
  clear hf HE hts en et hq hs hr
  go_enter Tryz.func68,Tryz.ntmps68
  go_wp2_with fail
  refine CF.out.mono ?_
  rintro e w1 ⟨hb1,rfl⟩
  clear CF
  go_wp2_with fail
  go_ret2
  show PutPost _ _ _ _
  rw [HN.out]
  exact ⟨hb1,.inl ⟨by decide,rfl⟩⟩
 | some l =>
  rw [hf] at CF
  obtain ⟨ho,hl60,hb4⟩:=find_ord smallU b l hf
  have hleft:=findP_leftL smallU b l hf
  unfold maxLen at hmm
  by_cases hml:m = l.length
  ·have HTS:Hid (∀ k,k < m→(ts.getD k ⟨#[]⟩).size≤1100000):=fun k hk=>by
    have h1:=sum_at (tls ts) k (by rw [tls_len];omega)
    rw [tls_get ts k (by omega)] at h1
    rw [Lib.size_eq]
    omega
   have CP:Hid (∀ (k:Nat) (W:World),k < m→Calls Tryz.prog 88 #[.string (ts.getD k ⟨#[]⟩),.int .u8 33,.int .u8 126,.string ⟨#[34,39,60,62,38,61]⟩] W fun e w'=>e = .returned (.bool (plainT (ts.getD k ⟨#[]⟩).data.toList))∧w' = W):=fun k W hk=>by
    have h1:=between_big (ts.getD k ⟨#[]⟩) ⟨#[34,39,60,62,38,61]⟩ [34,39,60,62,38,61] rfl 33 126 33 126 rfl rfl W (by have:=HTS.out k hk;omega)
    rw [betw_plain] at h1
    exact h1
   have HS:Hid (TxRow w a2 ts):=hs
   have HA:Hid (∀ k,k < m→((tls ts).drop k).all plainT = (plainT (ts.getD k ⟨#[]⟩).data.toList && ((tls ts).drop (k + 1)).all plainT)):=fun k hk=>tls_all ts k (by omega)
   have HZ:Hid (((tls ts).drop m).all plainT = true):=by unfold Hid;rw [List.drop_of_length_le (by simp [tls];omega)];rfl
   have HBAD:Hid ((tls ts).all plainT = false→putP smallU b (tls ts) = ([],1)):=fun h=>by
    unfold putP;rw [hf];simp only
    rw [if_neg (by simp [tls];omega),if_pos h]
   have HOKK:Hid ((tls ts).all plainT = true→putP smallU b (tls ts) = if 4000 < (fillP l (tls ts) b).length then ([],2) else (fillP l (tls ts) b,0)):=fun h=>by
    unfold putP;rw [hf];simp only
    rw [if_neg (by simp [tls];omega),if_neg (by rw [h];decide)]
   have HTM:Hid (m = ts.length):=et
   have HORD:Hid (Ord b.length 0 l):=ho
   have HLEFT:Hid (∀ x ∈ l,x.2.length + 1≤x.1):=hleft
   have HTOT:Hid (sumL (tls ts)≤1100000):=hts
   have HR:Hid (BRow w q b):=hr
   have HQ0:Hid (q = none→n = 0∧c = 0):=hq
   have HEN:Hid (n = b.length):=en
   have hm60:m≤60:=by omega
   have hn4:n≤4000:=by omega
   unfold FindPost at CF
   simp only at CF
   rw [← hml] at CF
   have HML:Hid (m = l.length):=hml
   clear hf HE hts en et hq hs hr ho hleft hml hb4 h4
   go_enter Tryz.func68,Tryz.ntmps68
   go_wp2_with fail
   refine CF.out.mono ?_
   rintro e w1 ⟨hb1,v1,rfl,own1⟩
   have own1':w1.ownsRow w.heap.size 40 3 v1 l.length (lv b.length l):=by rw [← HML.out];exact own1
   obtain ⟨a1,c1,rfl,h1a,h1b,h1n,hk1⟩:=owned_links own1'
   rw [← HML.out]
   have HK:Hid (KRow w1 a1 b.length l):=hk1
   have HS1:Hid (TxRow w1 a2 ts):=HS.out.below hb1
   have HR1:Hid (BRow w1 q b):=HR.out.below hb1
   have HB1:Hid (Below w.heap.size w w1):=hb1
   clear CF own1 own1' hk1 HS HR hb1
   go_wp2_with (at_builtin;refine append_bytes rfl (.tmp 25) (.tmp 26) rfl w1.heap.size _ [] rfl (empty_own w1 w1.heap.size (Nat.le_refl _)) q n c b HEN.out rfl (HR1.out.below ((Below.refl _ _).alloc (Nat.le_refl _) _)) HQ0.out (by simp;omega) (by simp) ?_)
   intro v8 w2 OP HOP own2 hg2
   have hb2:Below w1.heap.size w1 w2:=((Below.refl _ _).alloc (Nat.le_refl _) _).grown hg2 (by simp) (fun k hk=>by cases hk;exact Nat.le_refl _)
   obtain ⟨p8,c8,rfl,h8a,h8b,h8n⟩:=slice_of own2
   have HS2:Hid (TxRow w2 a2 ts):=HS1.out.below hb2
   have HP0:Hid (PuAt w1 b l (tls ts) (.slice p8 OP.length c8) w2 m OP):=⟨hb2,own2,by rw [HOP.out,HML.out,List.drop_of_length_le (Nat.le_refl _),fill_end]⟩
   have HB2:Hid (Below w.heap.size w w2):=HB1.out.trans (hb2.mono HB1.out.size)
   clear own2 hg2 hb2 HR1 HQ0 HOP h8n
   obtain ⟨n8,hn8⟩:∃ k,OP.length = k:=⟨_,rfl⟩
   rw [hn8] at HP0 h8a ⊢
   have HN8:Hid (OP.length = n8):=hn8
   clear hn8
   go_wp2_with fail
   go_loop [30] (fun iv=>∃ k:Nat,k≤m∧iv = .int .i64 k∧Hid (((tls ts).drop k).all plainT = (tls ts).all plainT)) (fun iv=>m - (intOf iv).toNat)
   case atStart=>exact ⟨0,Nat.zero_le _,rfl,rfl⟩
   case round =>
    obtain ⟨k,hk,rfl,HQ⟩:=hrel
    by_cases hlt:k < m
    ·obtain ⟨bt,ot,e2,hct⟩:=HS2.out (fun e=>by have:=HTM.out;rw [e] at this;simp at this;omega)
     subst e2
     have k3:=hct k (by rw [← HTM.out];exact hlt)
     have hki:(k:Int) < (m:Int):=by omega
     have HC:Hid (∀ W,Calls Tryz.prog 88 #[.string (ts.getD k ⟨#[]⟩),.int .u8 33,.int .u8 126,.string ⟨#[34,39,60,62,38,61]⟩] W fun e w'=>e = .returned (.bool (plainT (ts.getD k ⟨#[]⟩).data.toList))∧w' = W):=fun W=>CP.out k W hlt
     have HAK:=HA.out k hlt
     have hwk:IntKind.i64.wrap ((k:Int) + 1) = ((k + 1:Nat):Int):=by rw [IntKind.wrap_i64];omega
     clear hct
     generalize ts.getD k ⟨#[]⟩ = T at *
     cases hp:plainT T.data.toList with
     | true =>
      rw [hp] at HC HAK
      have HN:Hid (((tls ts).drop (k + 1)).all plainT = (tls ts).all plainT):=by unfold Hid;rw [← HQ.out,HAK];rfl
      clear HAK HQ hp
      go_wp2_with fail
      refine (HC.out _).mono ?_
      rintro e w3 ⟨rfl,hw3⟩
      have hw4:=hw3.symm
      subst hw4
      go_wp2_with fail
      go_round
      case rel=>exact ⟨k + 1,by omega,by go_num,HN⟩
      case measure=>simp [intOf];omega
     | false =>
      rw [hp] at HC HAK
      have HN:Hid (putP smallU b (tls ts) = ([],1)):=HBAD.out (by rw [← HQ.out,HAK];rfl)
      clear HAK HQ hp
      go_wp2_with fail
      refine (HC.out _).mono ?_
      rintro e w3 ⟨rfl,hw3⟩
      have hw4:=hw3.symm
      subst hw4
      go_wp2_with fail
      go_ret2
      show PutPost _ _ _ _
      rw [HN.out]
      exact ⟨HB2.out,.inl ⟨by decide,rfl⟩⟩
    ·obtain rfl:k = m:=by omega
     have HOK:Hid (putP smallU b (tls ts) = if 4000 < (fillP l (tls ts) b).length then ([],2) else (fillP l (tls ts) b,0)):=HOKK.out (by rw [← HQ.out];exact HZ.out)
     have hkk:decide ((k:Int) < (k:Int)) = false:=by simp
     have hw1:IntKind.i64.wrap ((k:Int) - 1) = (k:Int) - 1:=by rw [IntKind.wrap_i64];omega
     clear HQ HZ HA CP HBAD HOKK HS2
     go_wp2_with fail
     go_loopw [8,11] (fun ov iv wr=>∃ (j:Nat) (X:List UInt8) (po:Option Addr) (lo co:Nat),iv = .int .i64 ((j:Int) - 1)∧ov = .slice po lo co∧j≤k∧lo = X.length∧Hid (PuAt w1 b l (tls ts) (.slice po lo co) wr j X)) (fun _ iv _=>(intOf iv + 1).toNat)
     case atStart=>exact ⟨k,OP,p8,n8,c8,rfl,rfl,Nat.le_refl _,HN8.out.symm,HP0⟩
     case round =>
      obtain ⟨j,X,po,lo,co,rfl,rfl,hjk,elo,HJ⟩:=hrel
      have HLO:Hid (lo = X.length):=elo
      obtain ⟨hbl,hlc⟩:lo≤co∧co≤9223372036854775807:=by
       obtain ⟨a,c',e1,e2,e3,_⟩:=slice_of HJ.out.own
       injection e1 with _ _ e4
       rw [elo,e4]
       exact ⟨e2,e3⟩
      have hXl:X.length≤1104000:=by
       have h1:=fill_len (l.drop j) ((tls ts).drop j) b
       rw [← HJ.out.eq] at h1
       have h2:=sumL_drop (tls ts) j
       have h3:=HTOT.out
       have h4:=HEN.out
       omega
      clear elo HP0
      cases j with
      | zero =>
       have hneg:((0:Nat):Int) - 1 = -1:=rfl
       rw [hneg]
       have HE0:Hid (X = fillP l (tls ts) b):=HJ.out.eq
       have HOW:Hid (wr.ownsRow w.heap.size 5 1 (.slice po lo co) X.length (bv X)):=ownsRow_base HJ.out.own HB1.out.size
       have HBW:Hid (Below w.heap.size w wr):=HB1.out.trans (HJ.out.bel.mono HB1.out.size)
       by_cases h4:4000 < lo
       ·have h4':(4000:Int) < (lo:Int):=by omega
        have HN:Hid (putP smallU b (tls ts) = ([],2)):=by unfold Hid;rw [HOK.out,if_pos (by rw [← HE0.out,← HLO.out];exact h4)]
        clear HJ hneg
        go_wp2_with fail
        go_ret2
        show PutPost _ _ _ _
        rw [HN.out]
        exact ⟨HBW.out,.inl ⟨by decide,rfl⟩⟩
       ·have h4':¬ (4000:Int) < (lo:Int):=by omega
        have HN:Hid (putP smallU b (tls ts) = (X,0)):=by unfold Hid;rw [HOK.out,if_neg (by rw [← HE0.out,← HLO.out];exact h4),HE0.out]
        clear HJ hneg
        go_wp2_with fail
        go_ret2
        show PutPost _ _ _ _
        rw [HN.out]
        exact ⟨HBW.out,.inr ⟨rfl,_,rfl,HOW.out⟩⟩
      | succ j =>
       have hjj:((j + 1:Nat):Int) - 1 = (j:Int):=by omega
       rw [hjj]
       have hjl:j < l.length:=by have:=HML.out;omega
       have hjt:j < ts.length:=by have:=HTM.out;omega
       have HSr:TxRow wr a2 ts:=HS1.out.below HJ.out.bel
       have HKr:KRow wr a1 b.length l:=HK.out.below HJ.out.bel
       obtain ⟨bt,ot,e2,hct⟩:=HSr (fun e=>by rw [e] at hjt;simp at hjt)
       obtain ⟨bl,e1,hcl⟩:=HKr (fun e=>by rw [e] at hjl;simp at hjl)
       subst e1 e2
       have k3:=hct j hjt
       obtain ⟨k0,k1,_⟩:=hcl j hjl
       have hl0:bl < w1.heap.size:=by
        obtain ⟨b',e3,hc'⟩:=HK.out (fun e=>by rw [e] at hjl;simp at hjl)
        injection e3 with e3
        injection e3 with e3
        rw [e3]
        exact World.block_lt_of_cell? w1 _ (hc' j hjl).1
       have ht0:bt < w1.heap.size:=by
        obtain ⟨b',o',e3,hc'⟩:=HS1.out (fun e=>by rw [e] at hjt;simp at hjt)
        injection e3 with e3
        injection e3 with e3
        rw [e3]
        exact World.block_lt_of_cell? w1 _ (hc' j hjt)
       have hji:(j:Int) < (k:Int):=by omega
       have hj0:(0:Int)≤(j:Int):=by omega
       have hwj:IntKind.i64.wrap ((j:Int) - 1) = (j:Int) - 1:=by rw [IntKind.wrap_i64];omega
       have hget:=tls_get ts j hjt
       have HTZ:=HTS.out j (by omega)
       obtain ⟨T,hT⟩:∃ T,ts.getD j ⟨#[]⟩ = T:=⟨_,rfl⟩
       rw [hT] at k3 hget HTZ
       clear hct hcl HSr HKr
       by_cases ht:T.data.toList = []
       ·have hemp:T.toList.isEmpty = true:=by rw [ByteArray.toList_eq,ht];rfl
        have HJ2:Hid (PuAt w1 b l (tls ts) (.slice po lo co) wr j X):=⟨HJ.out.bel,HJ.out.own,by rw [HJ.out.eq,fill_keepK l (tls ts) b j hjl (by rw [tls_len];exact hjt) (by rw [hget,ht])]⟩
        clear HJ ht hget hT
        go_wp2_with fail
        go_roundw
        case rel=>exact ⟨j,X,po,lo,co,rfl,rfl,by omega,HLO.out,HJ2⟩
        case measure=>simp [intOf]
       ·have hemp:T.toList.isEmpty = false:=by rw [ByteArray.toList_eq];cases h:T.data.toList with
         | nil=>exact absurd h ht
         | cons _ _=>rfl
        obtain ⟨hstep,hjX⟩:=fill_step l (tls ts) b HORD.out HLEFT.out j hjl (by rw [tls_len];exact hjt) (by rw [hget];exact ht)
        rw [← HJ.out.eq,hget] at hstep
        rw [← HJ.out.eq] at hjX
        obtain ⟨i0,hi0⟩:∃ i,b.length - (l.getD j (0,[])).1 = i:=⟨_,rfl⟩
        obtain ⟨j0,hj0'⟩:∃ i,i0 + (l.getD j (0,[])).2.length = i:=⟨_,rfl⟩
        rw [hi0] at k0 k1 hstep hjX
        rw [hj0'] at k1 hstep hjX
        have hij0:i0≤j0:=by omega
        have CR:Hid (Calls Tryz.prog 116 #[.slice po lo co,.int .i64 i0,.int .i64 j0,.slice (some ⟨wr.heap.size,0,none⟩) T.size (grownCap wr.drew T.size 0 5)] (Lib.bytesWorld wr.drew 5 T) fun e w'=>∃ v',e = .returned v'∧Below w1.heap.size w1 w'∧w'.ownsRow w1.heap.size 5 1 v' (X.take i0 ++ T.data.toList ++ X.drop j0).length (bv (X.take i0 ++ T.data.toList ++ X.drop j0))):=puts_one w1 wr (.slice po lo co) X T i0 j0 lo HLO.out hij0 (by rw [HLO.out];exact hjX) ht (by omega) HJ.out.bel HJ.out.own
        have hcv:∀ W,(convert 9 22 (.string T)).run Tryz.prog W = .ok (.slice (some ⟨W.heap.size,0,none⟩) T.size (grownCap W T.size 0 5)) (Lib.bytesWorld W 5 T):=fun W=>Lib.run_convert_string_bytes W _ _ _ T Tryz.underlying9 Tryz.underlying22 Tryz.underlying5
        have HKEEP:Hid (∀ W,Below w1.heap.size w1 W→Below w1.heap.size w1 (Lib.bytesWorld W 5 T)):=fun W hW=>hW.trans ⟨rfl,rfl,rfl,by rw [Lib.bytesWorld_size];omega,fun q hq=>Lib.bytesWorld_at_old W _ T q (Nat.lt_of_lt_of_le hq hW.size)⟩
        have f0:∀ w',Below w1.heap.size w1 w'→w'.cell? ⟨bl,j * 3,none⟩ = some (.int .i64 (i0:Int)):=fun w' h=>(h.cell (p:=⟨bl,j * 3,none⟩) hl0).trans ((HJ.out.bel.cell (p:=⟨bl,j * 3,none⟩) hl0).symm.trans k0)
        have f1:∀ w',Below w1.heap.size w1 w'→w'.cell? ⟨bl,j * 3 + 1,none⟩ = some (.int .i64 (j0:Int)):=fun w' h=>(h.cell (p:=⟨bl,j * 3 + 1,none⟩) hl0).trans ((HJ.out.bel.cell (p:=⟨bl,j * 3 + 1,none⟩) hl0).symm.trans k1)
        have f3:∀ w',Below w1.heap.size w1 w'→w'.cell? ⟨bt,ot + j,none⟩ = some (.string T):=fun w' h=>(h.cell (p:=⟨bt,ot + j,none⟩) ht0).trans ((HJ.out.bel.cell (p:=⟨bt,ot + j,none⟩) ht0).symm.trans k3)
        have HBR:Hid (Below w1.heap.size w1 wr):=HJ.out.bel
        have hbr:Below w1.heap.size w1 wr.drew:=HJ.out.bel.drew
        have HST:Hid (fillP (l.drop j) ((tls ts).drop j) b = X.take i0 ++ T.data.toList ++ X.drop j0):=hstep
        clear HJ hstep hjX hget ht hT hi0 hj0' hij0 HTZ
        go_upto_region 17 with fail
        first
         | (go_region_held (fun w'=>Below w1.heap.size w1 w') (first | assumption | exact HBR.out.drew | exact HKEEP.out _ HBR.out.drew) (first
           | (go_at_call 116;refine CR.out.mono ?_;rintro e w' ⟨v',rfl,hb',hown'⟩)))
         | fail
        rename_i hHeld
        clear hHeld
        obtain ⟨po',co',rfl,_⟩:=slice_of hown'
        have HJ2:Hid (PuAt w1 b l (tls ts) (.slice po' (X.take i0 ++ T.data.toList ++ X.drop j0).length co') w' j (X.take i0 ++ T.data.toList ++ X.drop j0)):=⟨hb',hown',HST.out.symm⟩
        clear hb' hown' CR hcv HKEEP f0 f1 f3 HBR hbr k0 k1 k3
        generalize X.take i0 ++ T.data.toList ++ X.drop j0 = Y at *
        obtain ⟨ly,hly⟩:∃ k,Y.length = k:=⟨_,rfl⟩
        have HLY:Hid (Y.length = ly):=hly
        rw [hly] at HJ2 ⊢
        clear hly
        go_wp2_with fail
        go_roundw
        case rel=>exact ⟨j,Y,po',ly,co',rfl,rfl,by omega,HLY.out.symm,HJ2⟩
        case measure=>simp [intOf]
  ·have HN:Hid (putP smallU b (tls ts) = ([],4)):=by
    unfold Hid putP;rw [hf];simp only
    rw [if_pos (by rw [tls_len];omega)]
   have hne:((l.length:Int) != (m:Int)) = true:=by rw [bne_iff_ne];omega
   unfold FindPost at CF
   simp only at CF
   clear hf HE hts en et hq hs hr ho hleft
   go_enter Tryz.func68,Tryz.ntmps68
   go_wp2_with fail
   refine CF.out.mono ?_
   rintro e w1 ⟨hb1,v1,rfl,own1⟩
   obtain ⟨a1,c1,rfl,h1a,h1b,h1n,hk1⟩:=owned_links own1
   clear CF own1 hk1
   go_wp2_with fail
   go_ret2
   show PutPost _ _ _ _
   rw [HN.out]
   exact ⟨hb1,.inl ⟨by decide,rfl⟩⟩
end Go.Proofs.YtbbfcbodhmeanaaGreatDoor



namespace Go.Proofs.YtbbfcbodhmeanaaGreatDoor
open Go.RowKit
abbrev FnR (TB NB EB FB:Nat):Value:=.func (Fn.func 67) #[] #[.pointer (some ⟨TB,0,none⟩),.pointer (some ⟨NB,0,none⟩),.pointer (some ⟨EB,0,none⟩),.pointer (some ⟨FB,0,none⟩)]
structure Mov (NB EB:Nat) (k e:Nat) (W W':World):Prop where
 os:W'.os = W.os
 tape:W'.tape = W.tape
 output:W'.output = W.output
 size:W.heap.size≤W'.heap.size
 block:∀ b,b < W.heap.size→b ≠ NB→b ≠ EB→W'.heap[b]? = W.heap[b]?
 nb:W'.heap[NB]? = some (.cells #[.int .i64 (k:Int)] 3)
 eb:W'.heap[EB]? = some (.cells #[.int .i64 (e:Int)] 27)
theorem Mov.trans {NB EB k e k' e':Nat} {W W1 W2:World} (h1:Mov NB EB k e W W1) (h2:Mov NB EB k' e' W1 W2):Mov NB EB k' e' W W2 :=
 ⟨h2.os.trans h1.os,h2.tape.trans h1.tape,h2.output.trans h1.output,Nat.le_trans h1.size h2.size,fun b hb hn he=>(h2.block b (Nat.lt_of_lt_of_le hb h1.size) hn he).trans (h1.block b hb hn he),h2.nb,h2.eb⟩
theorem Mov.then {NB EB k e:Nat} {W W1 W2:World} (h1:Mov NB EB k e W W1) (h2:Below W1.heap.size W1 W2):Mov NB EB k e W W2 :=
 ⟨h2.os.trans h1.os,h2.tape.trans h1.tape,h2.output.trans h1.output,Nat.le_trans h1.size h2.size,fun b hb hn he=>(h2.block b (Nat.lt_of_lt_of_le hb h1.size)).trans (h1.block b hb hn he),blk_on h1.nb h2,blk_on h1.eb h2⟩
theorem Mov.of {NB EB k e:Nat} {W W1:World} (h:Below W.heap.size W W1) (hn:W.heap[NB]? = some (.cells #[.int .i64 (k:Int)] 3)) (he:W.heap[EB]? = some (.cells #[.int .i64 (e:Int)] 27)):Mov NB EB k e W W1 :=
 ⟨h.os,h.tape,h.output,h.size,fun b hb _ _=>h.block b hb,blk_on hn h,blk_on he h⟩
theorem Mov.base {NB EB k e B:Nat} {W0 W W1:World} (h:Mov NB EB k e W W1) (hb:Below B W0 W) (hB:B≤W.heap.size) (hn:B≤NB) (he:B≤EB):Below B W0 W1 :=
 ⟨h.os.trans hb.os,h.tape.trans hb.tape,h.output.trans hb.output,Nat.le_trans hb.size h.size,fun b hlt=>(h.block b (by omega) (by omega) (by omega)).trans (hb.block b hlt)⟩
theorem Mov.setN {NB EB k e:Nat} {W W1:World} (h:Mov NB EB k e W W1) (k':Nat) (hne:NB ≠ EB):Mov NB EB k' e W (W1.setCell ⟨NB,0,none⟩ (.int .i64 (k':Int))):=by
 refine ⟨h.os,h.tape,h.output,by simp [World.setCell];exact h.size,fun b hb hn he=>?_,?_,?_⟩
 ·rw [Below.heap_setCell _ _ _ _ hn]
  exact h.block b hb hn he
 ·exact (set_blk h.nb 0 _).trans rfl
 ·rw [Below.heap_setCell _ _ _ _ (Ne.symm hne)]
  exact h.eb
theorem Mov.setE {NB EB k e:Nat} {W W1:World} (h:Mov NB EB k e W W1) (e':Nat) (hne:NB ≠ EB):Mov NB EB k e' W (W1.setCell ⟨EB,0,none⟩ (.int .i64 (e':Int))):=by
 refine ⟨h.os,h.tape,h.output,by simp [World.setCell];exact h.size,fun b hb hn he=>?_,?_,?_⟩
 ·rw [Below.heap_setCell _ _ _ _ he]
  exact h.block b hb hn he
 ·rw [Below.heap_setCell _ _ _ _ hne]
  exact h.nb
 ·exact (set_blk h.eb 0 _).trans rfl
theorem Mov.set {NB EB k e:Nat} {W W1:World} (h:Mov NB EB k e W W1) (A i:Nat) (v:Value) (hA:W.heap.size≤A) (hn:NB < W.heap.size) (he:EB < W.heap.size):Mov NB EB k e W (W1.setCell ⟨A,i,none⟩ v):=by
 refine ⟨h.os,h.tape,h.output,by simp [World.setCell];exact h.size,fun b hb hn he=>?_,?_,?_⟩
 ·rw [Below.heap_setCell _ _ _ _ (show b ≠ A by omega)]
  exact h.block b hb hn he
 ·rw [Below.heap_setCell _ _ _ _ (show NB ≠ A by omega)]
  exact h.nb
 ·rw [Below.heap_setCell _ _ _ _ (show EB ≠ A by omega)]
  exact h.eb
def Agr (G s sz:Nat) (W V:World):Prop:=∀ b,(b < G ∨ (s≤b∧b < sz))→V.heap[b]? = W.heap[b]?
def LocB (G s sz:Nat) (W:World) (a:Option Addr) (l:List UInt8):Prop:=∀ V,Agr G s sz W V→BRow V a l
def LocK (G s sz:Nat) (W:World) (f:Nat) (z:PZ):Prop:=∀ V,Agr G s sz W V→PHeld V f z.1 z.2.1.1 z.2.1.2 z.2.2.1 z.2.2.2
theorem LocB.move {G s sz:Nat} {W W1:World} {a:Option Addr} {l:List UInt8} (h:LocB G s sz W a l) (hm:Agr G s sz W W1):LocB G s sz W1 a l:=fun V hV=>h V fun b hb=>(hV b hb).trans (hm b hb)
theorem LocK.move {G s sz:Nat} {W W1:World} {f:Nat} {z:PZ} (h:LocK G s sz W f z) (hm:Agr G s sz W W1):LocK G s sz W1 f z:=fun V hV=>h V fun b hb=>(hV b hb).trans (hm b hb)
theorem LocB.old {W0 W:World} {a:Option Addr} {l:List UInt8} (h:BRow W0 a l) (hb:Below W0.heap.size W0 W) (s sz:Nat):LocB W0.heap.size s sz W a l:=by
 intro V hV hne
 obtain ⟨b,o,e,hc⟩:=h hne
 refine ⟨b,o,e,fun i hi=>?_⟩
 have h1:=hc i hi
 have hlt:=World.block_lt_of_cell? W0 _ h1
 rw [World.cell?_of_block ((hV b (.inl hlt)).trans (hb.block b hlt))]
 exact h1
theorem LocB.nil (G s sz:Nat) (W:World) (a:Option Addr):LocB G s sz W a []:=fun _ _ h=>absurd rfl h
theorem brow_owns {w:World} {B n c:Nat} {a:Option Addr} {l:List UInt8} (h:w.ownsRow B 5 1 (.slice a n c) n (bv l)) (hn:n = l.length):BRow w a l:=by
 subst hn
 rcases h.2 with ⟨h1,h0⟩ | ⟨g,cap,cur,h1,_,_,_,_,_,_⟩
 ·exact fun hne=>absurd (List.length_eq_zero_iff.1 h0) hne
 ·injection h1 with h1 _ _
  subst h1
  refine fun hne=>⟨g,0,rfl,fun i hi=>?_⟩
  rw [Nat.zero_add,h.cellAt i (by omega),bv,List.getElem?_map,List.getElem?_eq_getElem hi,List.getD_eq_getElem?_getD,List.getElem?_eq_getElem hi]
  rfl
theorem LocB.new {w:World} {G s B n c:Nat} {a:Option Addr} {l:List UInt8} (h:w.ownsRow B 5 1 (.slice a n c) n (bv l)) (hn:n = l.length) (hs:s≤B):LocB G s w.heap.size w a l:=by
 intro V hV
 refine brow_owns (B:=B) (n:=n) (c:=c) (owns_move h (fun b hb=>hV b (.inr ?_))) hn
 have:=h.lt b hb
 omega
theorem KAt.far {w:World}:∀ (f:Nat) (a:Option Addr) (l:List PT),KAt w f a l→KFar w (fun _=>True) f a l
 | 0,_,_,h=>h
 | f + 1,a,l,h=>fun hne=>by
  obtain ⟨b,o,e,hc⟩:=h hne
  refine ⟨b,o,e,trivial,fun i hi=>?_⟩
  obtain ⟨pb,cb,pk,ck,h1,h2⟩:=hc i hi
  exact ⟨pb,cb,pk,ck,h1,fun _ _=>trivial,h2.1,h2.2.1,h2.2.2.1,h2.2.2.2.1,KAt.far f _ _ h2.2.2.2.2⟩
theorem kat_row {w:World} {f B n:Nat} {v:Value} {Z:List PZ} (ho:w.ownsRow B 25 7 v n (pzv Z)) (hn:n = Z.length) (hh:∀ z ∈ Z,PHeld w f z.1 z.2.1.1 z.2.1.2 z.2.2.1 z.2.2.2):∃ q c,v = .slice q n c∧n≤c∧c≤maxLen∧(q = none→c = 0)∧KAt w (f + 1) q (Z.map (·.1)):=by
 obtain ⟨q,c,h1,h2,h3,h4,h5⟩:=KFar.of_list (Q:=fun _=>True) (f:=f) ho hn (fun _ _ _=>trivial) (fun z hz=>⟨fun _ _=>trivial,(hh z hz).1,(hh z hz).2.1,(hh z hz).2.2.1,(hh z hz).2.2.2.1,KAt.far f _ _ (hh z hz).2.2.2.2⟩)
 exact ⟨q,c,h1,h2,h3,h4,KFar.at _ _ _ h5⟩
def LocZ (G S1:Nat) (W:World) (f:Nat) (own:Option Nat) (Z:List PZ):Prop:=∀ z ∈ Z,∃ s sz,S1≤s∧s≤sz∧sz≤W.heap.size∧(∀ b,own = some b→b < s ∨ sz≤b)∧LocK G s sz W f z
theorem LocZ.move {G S1:Nat} {W W1:World} {f:Nat} {own:Option Nat} {Z:List PZ} (h:LocZ G S1 W f own Z) (hs:W.heap.size≤W1.heap.size) (hm:∀ b,b < W.heap.size→(b < G ∨ (S1≤b∧own ≠ some b))→W1.heap[b]? = W.heap[b]?) (hG:G≤S1):LocZ G S1 W1 f own Z:=by
 intro z hz
 obtain ⟨s,sz,h1,h2,h3,h4,h5⟩:=h z hz
 refine ⟨s,sz,h1,h2,by omega,h4,h5.move fun b hb=>hm b ?_ ?_⟩
 ·rcases hb with hb | hb
  ·omega
  ·omega
 ·rcases hb with hb | hb
  ·exact .inl hb
  ·refine .inr ⟨by omega,fun e=>?_⟩
   have:=h4 b e
   omega
structure TxEnv (W0:World) (TB mb:Nat) (tx:Nat→List ByteArray):Prop where
 cell:∀ W,Below W0.heap.size W0 W→W.cell? ⟨TB,0,none⟩ = some (.map (some mb))
 look:∀ k:Nat,k≤1000→∃ a c,∀ W,Below W0.heap.size W0 W→(Instr.lookup 106 (.map (some mb)) (.int .i64 (k:Int)) false).run Tryz.prog W = .ok (.slice a (tx k).length c) W∧TxRow W a (tx k)
 sum:∀ k,sumL (tls (tx k))≤1100000
 len:∀ k,(tx k).length≤1000
structure WkAt (W0:World) (TB NB EB FB:Nat) (k e:Nat) (W:World):Prop where
 bel:Below W0.heap.size W0 W
 nb:W.heap[NB]? = some (.cells #[.int .i64 (k:Int)] 3)
 eb:W.heap[EB]? = some (.cells #[.int .i64 (e:Int)] 27)
 fb:W.heap[FB]? = some (.cells #[FnR TB NB EB FB] 45)
theorem WkAt.mov {W0:World} {TB NB EB FB k e k' e':Nat} {W W1:World} (h:WkAt W0 TB NB EB FB k e W) (hm:Mov NB EB k' e' W W1) (hn:W0.heap.size≤NB) (he:W0.heap.size≤EB) (hfn:FB ≠ NB) (hfe:FB ≠ EB):WkAt W0 TB NB EB FB k' e' W1 :=
 ⟨hm.base h.bel h.bel.size hn he,hm.nb,hm.eb,(hm.block FB (Array.getElem?_eq_some_iff.1 h.fb).1 hfn hfe).trans h.fb⟩
theorem WkAt.below {W0:World} {TB NB EB FB k e:Nat} {W W1:World} (h:WkAt W0 TB NB EB FB k e W) (hb:Below W.heap.size W W1):WkAt W0 TB NB EB FB k e W1:=⟨h.bel.trans (hb.mono h.bel.size),blk_on h.nb hb,blk_on h.eb hb,blk_on h.fb hb⟩
theorem putP_like (b:List UInt8) (ts:List (List UInt8)):putP smallU b ts = putP lowT b ts:=by
 unfold putP
 rw [show findP lowT b = findP smallU b from find_like b]
theorem putP_err (low:List UInt8→List UInt8) (b:List UInt8) (ts:List (List UInt8)) (h:(putP low b ts).2 ≠ 0):(putP low b ts).1 = []:=by
 have key:∀ r:List UInt8 × Nat,r = putP low b ts→r.2 ≠ 0→r.1 = []:=by
  intro r hr h
  unfold putP at hr
  split at hr
  ·rw [hr]
  ·split at hr
   ·rw [hr]
   ·split at hr
    ·rw [hr]
    ·split at hr
     ·rw [hr]
     ·rw [hr] at h
      exact absurd rfl h
 exact key _ rfl h
theorem fillB_small (ts:List ByteArray) (b:List UInt8) (hb:b.length≤4000):(fillB ts b).1.length≤4000:=by
 by_cases h:(fillB ts b).2 = 0
 ·exact fillB_len hb (show fillB ts b = ((fillB ts b).1,0) from by rw [← h])
 ·unfold fillB at h ⊢
  split
  ·exact hb
  ·rename_i hne
   rw [if_neg hne] at h
   rw [putP_err _ _ _ h]
   simp
theorem obytesR {w:World} {B:Nat} {v:Value} {l:List UInt8} (h:w.ownsRow B 5 1 v l.length (bv l)):∃ p c,v = .slice p l.length c∧l.length≤c∧c≤maxLen∧(p = none→l.length = 0∧c = 0)∧BRow w p l:=by
 rcases h.2 with ⟨rfl,h0⟩ | ⟨g,cap,cur,rfl,_,_,hn,hm,_,_⟩
 ·exact ⟨none,0,by rw [h0],by omega,by decide,fun _=>⟨h0,rfl⟩,fun hne=>absurd (List.length_eq_zero_iff.1 h0) hne⟩
 ·refine ⟨some ⟨g,0,none⟩,cap,rfl,hn,hm,(fun h=>by cases h),fun hne=>⟨g,0,rfl,fun i hi=>?_⟩⟩
  rw [Nat.zero_add,h.cellAt i (by omega),bv,List.getElem?_map,List.getElem?_eq_getElem hi,List.getD_eq_getElem?_getD,List.getElem?_eq_getElem hi]
  rfl
end Go.Proofs.YtbbfcbodhmeanaaGreatDoor


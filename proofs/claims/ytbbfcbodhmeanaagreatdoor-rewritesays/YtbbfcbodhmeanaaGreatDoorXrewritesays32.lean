
import Derived.Test.YtbbfcbodhmeanaaGreatDoorXrewritesays31
import Derived.Lib.MapU
import Derived.Lib.TrimUEq
import Derived.Lib.TrimAscii
import Derived.Lib.RuneBytes
namespace Go.Proofs.YtbbfcbodhmeanaaGreatDoor
theorem firstP_ge (ok:Nat→PT→Bool):∀ (l:List PT) (k:Nat),-1≤firstP ok k l∧firstP ok k l < (k:Int) + l.length ∨ firstP ok k l = -1
 | [],k=>Or.inr rfl
 | p::l,k=>by
  rw [firstP]
  split
  ·left;simp;omega
  ·rcases firstP_ge ok l (k + 1) with h | h
   ·left;simp;omega
   ·right;exact h
theorem findW_range (l:List PT) (wh:List (List UInt8)) (tw:List UInt8):-1≤findW l wh tw∧(findW l wh tw < (l.length:Int) ∨ findW l wh tw = -1):=by
 unfold findW
 split
 ·exact ⟨by omega,Or.inr rfl⟩
 ·split
  ·rcases firstP_ge (okID ((noFr tw).drop 4)) l 0 with h | h <;> omega
  ·rcases firstP_ge (okLoc wh (noFr tw)) l 0 with h | h <;> omega
theorem noFr_cons (c:UInt8) (r:List UInt8) (h:c ≠ 35):noFr (c::r) ≠ []:=by
 unfold noFr
 rw [cutB,if_neg h]
 cases cutB 35 r <;> simp
theorem noFr_led (a b:List UInt8) (h:ledU a b ≠ []):noFr (ledU a b) ≠ []:=by
 unfold ledU at h ⊢
 by_cases h1:(parseU a).2 ≠ 0
 ·rw [if_pos h1] at h;exact absurd rfl h
 by_cases h2:(parseU b).2 ≠ 0
 ·rw [if_neg h1,if_pos h2] at h;exact absurd rfl h
 by_cases h3:(leadU (parseU a).1 (parseU b).1).2 ≠ 0
 ·rw [if_neg h1,if_neg h2,if_pos h3] at h;exact absurd rfl h
 have h3':(leadU (parseU a).1 (parseU b).1).2 = 0:=by simpa using h3
 rw [if_neg h1,if_neg h2,if_neg h3]
 obtain ⟨k1,k2,-,-⟩:=lead_keeps h3'
 generalize (leadU (parseU a).1 (parseU b).1).1 = x at *
 have ep:printU x = (textU x,0):=by unfold printU;rw [if_pos k1]
 rw [ep]
 simp only
 have hf:wrtU x = true:=by
  unfold checkU at k1
  split at k1
  ·cases k1
  ·split at k1
   ·cases k1
   ·rename_i hh;simpa using hh
 cases hs:x.sch with
 | nil=>rw [hs] at k2;simp at k2
 | cons c r =>
  have hc:c ≠ 35:=by
   rintro rfl
   unfold wrtU at hf
   rw [hs] at hf
   simp [schemeS,isLowB] at hf
  unfold textU
  rw [hs]
  show noFr (c::_) ≠ []
  exact noFr_cons c _ hc
end Go.Proofs.YtbbfcbodhmeanaaGreatDoor



namespace Go.Proofs.YtbbfcbodhmeanaaGreatDoor
def aheadR (ah:List UInt8):List UInt8:=if ah = [] then nowS else ah
def meR (ah:List UInt8) (p:PT):List UInt8:=if p.loc.data.toList = [] then aheadR ah else ledU (aheadR ah) p.loc.data.toList
def whereR:Nat→PT→List UInt8→List (List UInt8)
 | 0,_,_=>[]
 | f + 1,p,ah=>meR ah p::p.kids.flatMap fun k=>whereR f k (meR ah p)
theorem whereR_succ (f:Nat) (p:PT) (ah:List UInt8):whereR (f + 1) p ah = meR ah p::p.kids.flatMap fun k=>whereR f k (meR ah p):=by rw [whereR]
theorem meR_len (ah:List UInt8) (p:PT) (h:ah.length≤120):(aheadR ah).length≤120∧(meR ah p).length≤120:=by
 have h1:(aheadR ah).length≤120:=by
  unfold aheadR
  split
  ·decide
  ·exact h
 refine ⟨h1,?_⟩
 unfold meR
 split
 ·exact h1
 ·exact ledU_len _ _
def ahW (wh:List (List UInt8)) (inn:Int):List UInt8:=if inn < 0 then [] else wh.getD inn.toNat []
theorem step_me (wh:List (List UInt8)) (p:PT) (inn:Int):stepW wh (p,inn) = meR (ahW wh inn) p:=by
 have h:fromW wh inn = aheadR (ahW wh inn):=by
  unfold fromW aheadR ahW
  by_cases h:inn < 0
  ·rw [if_pos h,if_pos h,if_pos rfl]
  ·rw [if_neg h,if_neg h]
 unfold stepW meR
 simp only
 rw [h]
theorem ahW_at {wh r:List (List UInt8)} {n:Nat} (h:wh.length = n) (me:List UInt8):ahW (wh ++ me::r) (n:Int) = me:=by
 unfold ahW
 rw [if_neg (by omega),Int.toNat_natCast,List.getD_eq_getElem?_getD,List.getElem?_append_right (by omega),h,Nat.sub_self]
 rfl
theorem where_put:∀ (f:Nat) (l:List (PT × Int)) (p:PT) (depth:Nat) (inn:Int) (m:List (PT × Int)),put f l p depth inn = some m→whereP m = whereP l ++ whereR f p (ahW (whereP l) inn)
 | 0,_,_,_,_,_,h=>by cases h
 | f + 1,l,p,depth,inn,m,h=>by
  rw [put] at h
  split at h
  ·cases h
  ·rw [whereR_succ]
   have hme:whereP (l ++ [(p,inn)]) = whereP l ++ [meR (ahW (whereP l) inn) p]:=by rw [whereP_snoc,step_me]
   generalize meR (ahW (whereP l) inn) p = me at *
   have key:∀ (ks:List PT) (cur:List (PT × Int)) (r:List (List UInt8)),whereP cur = whereP l ++ me::r→ks.foldl (fun acc k=>acc.bind fun m=>put f m k (depth + 1) l.length) (some cur) = some m→whereP m = whereP l ++ me::(r ++ ks.flatMap fun k=>whereR f k me):=by
    intro ks
    induction ks with
    | nil =>
     intro cur r hc hm
     simp only [List.foldl_nil,Option.some.injEq] at hm
     subst hm
     simpa using hc
    | cons k ks ih =>
     intro cur r hc hm
     rw [List.foldl_cons,Option.bind_some] at hm
     cases hp:put f cur k (depth + 1) l.length with
     | none=>rw [hp,foldl_none] at hm;cases hm
     | some m2 =>
      rw [hp] at hm
      have h1:=where_put f cur k (depth + 1) l.length m2 hp
      rw [hc,ahW_at (whereP_length l) me] at h1
      have h2:=ih m2 (r ++ whereR f k me) (by rw [h1];simp) hm
      rw [h2]
      simp
   have:=key p.kids (l ++ [(p,inn)]) [] (by rw [hme]) h
   simpa using this
theorem where_places (p:PT) (h:(placesP p).1 = 0):whereP (placesP p).2 = whereR 4 p []:=by
 unfold placesP at h ⊢
 cases hp:put 4 [] p 1 (-1) with
 | none=>rw [hp] at h;cases h
 | some l =>
  rw [hp] at h
  simp only at h ⊢
  split
  ·have:=where_put 4 [] p 1 (-1) l hp
   simpa [whereP,ahW] using this
  ·rename_i h2
   rw [if_neg h2] at h
   exact absurd h h2
end Go.Proofs.YtbbfcbodhmeanaaGreatDoor



namespace Go.Proofs.YtbbfcbodhmeanaaGreatDoor
def keyL:List Int:=[99,101,102,104,114,115]
def rowOk (x:Lib.CaseRow):Bool:=decide (x.2.1 < 128) || (if x.delta 1 > 1114111 then decide (116≤x.1) else decide (0≤(x.1:Int) + x.delta 1) && keyL.all fun k=>decide (k < (x.1:Int) + x.delta 1) || decide ((x.2.1:Int) + x.delta 1 < k))
theorem rows_ok:Lib.caseT.all rowOk = true:=by decide +kernel
theorem lookup_in (T:Array Lib.CaseRow) (r:Int) (h128:128≤r):∀ (f lo hi i:Nat),Lib.lookupIdx T r f lo hi = some i→∃ x ∈ T.toList,T.getD i (0,0,0,0,0) = x∧(x.1:Int)≤r∧r≤(x.2.1:Int)
 | 0,_,_,_,h=>by cases h
 | f + 1,lo,hi,i,h=>by
  unfold Lib.lookupIdx at h
  split at h
  ·split at h
   ·rename_i h1
    injection h with h
    subst h
    by_cases hs:(lo + hi) / 2 < T.size
    ·refine ⟨T[(lo + hi) / 2],by simp,by simp [Array.getD,hs],?_⟩
     have e:T.getD ((lo + hi) / 2) (0,0,0,0,0) = T[(lo + hi) / 2]:=by simp [Array.getD,hs]
     rw [e] at h1
     exact h1
    ·have e:T.getD ((lo + hi) / 2) (0,0,0,0,0) = (0,0,0,0,0):=by simp [Array.getD,hs]
     rw [e] at h1
     have:=h1.2
     simp at this
     omega
   ·split at h
    ·exact lookup_in T r h128 f _ _ i h
    ·exact lookup_in T r h128 f _ _ i h
  ·cases h
theorem lower_far (r:Int) (h:128≤r):0≤Lib.toLowerU r∧∀ k ∈ keyL,Lib.toLowerU r ≠ k:=by
 unfold Lib.toLowerU
 rw [if_neg (by omega)]
 unfold Lib.toR Lib.lookupGo
 cases hl:Lib.lookupIdx Lib.caseA r (Lib.caseA.size + 1) 0 Lib.caseA.size with
 | none =>
  refine ⟨by simp;omega,fun k hk=>?_⟩
  simp only [Option.map_none]
  simp [keyL] at hk
  omega
 | some i =>
  obtain ⟨x,hx,e,h1,h2⟩:=lookup_in Lib.caseA r h _ _ _ i hl
  simp only [Option.map_some,e]
  have hx':x ∈ Lib.caseT:=by simpa [Lib.caseA] using hx
  have ok:=List.all_eq_true.1 rows_ok x hx'
  unfold rowOk at ok
  rw [Bool.or_eq_true] at ok
  rcases ok with ok | ok
  ·have:=of_decide_eq_true ok
   omega
  ·unfold Lib.convertR
   split at ok
   ·rename_i hd
    rw [if_pos hd]
    have:=of_decide_eq_true ok
    refine ⟨by omega,fun k hk=>?_⟩
    simp [keyL] at hk
    omega
   ·rename_i hd
    rw [if_neg hd]
    rw [Bool.and_eq_true,List.all_eq_true] at ok
    have h0:=of_decide_eq_true ok.1
    refine ⟨by omega,fun k hk=>?_⟩
    have:=ok.2 k hk
    rw [Bool.or_eq_true,decide_eq_true_eq,decide_eq_true_eq] at this
    omega
theorem decode_far (c:UInt8) (t:List UInt8) (h:128≤c.toNat):128≤(Lib.decodeL (c::t)).1:=by
 rw [Lib.decodeL_N]
 show 128≤(Lib.decodeN _ c.toNat _ _ _).1
 unfold Lib.decodeN
 grind
theorem enc_far (x:Int) (h:128≤x):∃ b t,Lib.encodeRune x = b::t∧128≤b.toNat:=by
 unfold Lib.encodeRune
 by_cases h1:x≤2047
 ·rw [Lib.encodeRuneZ_two h h1]
  refine ⟨_,_,rfl,?_⟩
  show 128≤((192 + x / 64).toNat % 256)
  omega
 ·by_cases h2:(2048≤x∧x < 55296) ∨ (57343 < x∧x≤65535)
  ·rw [Lib.encodeRuneZ_three h2]
   refine ⟨_,_,rfl,?_⟩
   show 128≤((224 + x / 4096).toNat % 256)
   omega
  ·by_cases h3:65536≤x∧x≤1114111
   ·rw [Lib.encodeRuneZ_four h3.1 h3.2]
    refine ⟨_,_,rfl,?_⟩
    show 128≤((240 + x / 262144).toNat % 256)
    omega
   ·rw [Lib.encodeRuneZ_bad (by omega)]
    exact ⟨239,_,rfl,by decide⟩
theorem lower_near (c:UInt8) (h:c.toNat < 128):0≤Lib.toLowerU (c.toNat:Int)∧Lib.encodeRune (Lib.toLowerU (c.toNat:Int)) = [lowU c]:=by
 have e:Lib.toLowerU (c.toNat:Int) = ((lowU c).toNat:Int):=by
  unfold Lib.toLowerU lowU isUpB
  rw [if_pos (by omega)]
  by_cases hu:65≤c.toNat∧c.toNat≤90
  ·rw [if_pos (by omega),if_pos (by simp [hu])]
   have:(c + 32).toNat = c.toNat + 32:=by rw [UInt8.toNat_add];show (c.toNat + 32) % 256 = _;omega
   omega
  ·rw [if_neg (by omega),if_neg (by simp;omega)]
 have h2:(lowU c).toNat < 128:=by
  unfold lowU isUpB
  split
  ·rename_i hu
   simp at hu
   have:(c + 32).toNat = c.toNat + 32:=by rw [UInt8.toNat_add];show (c.toNat + 32) % 256 = _;omega
   omega
  ·exact h
 refine ⟨by omega,?_⟩
 rw [e,Lib.encodeRune,Lib.encodeRuneZ_one (by omega) (by omega)]
 simp
theorem key_near (c:UInt8) (h:(c.toNat:Int) ∈ keyL):c.toNat < 128:=by simp [keyL] at h;omega
theorem low_same:∀ (n:Nat) (l K:List UInt8),l.length≤n→(∀ c ∈ K,(c.toNat:Int) ∈ keyL)→(Lib.mapGoD Lib.toLowerU n l = K ↔ smallU l = K)
 | 0,l,K,hn,_=>by
  obtain rfl:l = []:=List.length_eq_zero_iff.1 (by omega)
  exact Iff.rfl
 | n + 1,[],K,_,_=>by rw [Lib.mapGoD,if_pos rfl];exact Iff.rfl
 | n + 1,c::t,K,hn,hK=>by
  rw [Lib.mapGoD,if_neg (by simp)]
  by_cases hc:c.toNat < 128
  ·rw [Lib.decodeL_ascii c t hc,if_pos (lower_near c hc).1,(lower_near c hc).2]
   show lowU c::Lib.mapGoD Lib.toLowerU n t = K ↔ lowU c::smallU t = K
   cases K with
   | nil=>simp
   | cons k K =>
    have ih:=low_same n t K (by simpa using hn) (fun x hx=>hK x (by simp [hx]))
    rw [List.cons.injEq,List.cons.injEq,ih]
  ·have hf:=decode_far c t (by omega)
   have hl:=lower_far ((Lib.decodeL (c::t)).1:Int) (by omega)
   rw [if_pos hl.1]
   have e:smallU (c::t) = lowU c::smallU t:=rfl
   have hlow:128≤(lowU c).toNat:=by
    unfold lowU isUpB
    rw [if_neg (by simp;omega)]
    omega
   constructor
   ·intro h
    exfalso
    generalize Lib.toLowerU ((Lib.decodeL (c::t)).1:Int) = y at *
    by_cases hy:128≤y
    ·obtain ⟨b,u,eb,hb⟩:=enc_far y hy
     rw [eb] at h
     have:=key_near b (hK b (by rw [← h];simp))
     omega
    ·have eb:Lib.encodeRune y = [UInt8.ofNat y.toNat]:=by
      rw [Lib.encodeRune,Lib.encodeRuneZ_one hl.1 (by omega)]
      rfl
     rw [eb] at h
     have h3:=hK (UInt8.ofNat y.toNat) (by rw [← h];simp)
     have h4:((UInt8.ofNat y.toNat).toNat:Int) = y:=by
      have:(UInt8.ofNat y.toNat).toNat = y.toNat % 256:=rfl
      omega
     rw [h4] at h3
     exact hl.2 y h3 rfl
   ·intro h
    exfalso
    rw [e] at h
    have:=key_near (lowU c) (hK (lowU c) (by rw [← h];simp))
    omega
theorem low_href (l:List UInt8):Lib.toLowerD l = hrefL ↔ smallU l = hrefL:=low_same l.length l hrefL (Nat.le_refl _) (by decide)
theorem low_src (l:List UInt8):Lib.toLowerD l = srcL ↔ smallU l = srcL:=low_same l.length l srcL (Nat.le_refl _) (by decide)
def LikeN (a b:List (List UInt8)):Prop:=(hrefL ∈ a ↔ hrefL ∈ b)∧(srcL ∈ a ↔ srcL ∈ b)
theorem mine_like {a b:List (List UInt8)} (h:LikeN a b) {x y:List UInt8} (h1:x = hrefL ↔ y = hrefL) (h2:x = srcL ↔ y = srcL) (v:Option LK):mineP a x v = mineP b y v:=by
 unfold mineP
 cases v with
 | none=>rfl
 | some k =>
  simp only
  by_cases hx:x = hrefL
  ·have hy:=h1.1 hx
   subst hx hy
   have:a.contains hrefL = b.contains hrefL:=by rw [Bool.eq_iff_iff];simpa using h.1
   rw [this]
  ·by_cases hx2:x = srcL
   ·have hy:=h2.1 hx2
    subst hx2 hy
    have:a.contains srcL = b.contains srcL:=by rw [Bool.eq_iff_iff];simpa using h.2
    rw [this]
   ·have hy:¬ y = hrefL:=fun e=>hx (h1.2 e)
    have hy2:¬ y = srcL:=fun e=>hx2 (h2.2 e)
    rw [if_neg (fun e=>e.2.elim hx hx2),if_neg (fun e=>e.2.elim hy hy2)]
theorem like_cons {a b:List (List UInt8)} (h:LikeN a b) {x y:List UInt8} (h1:x = hrefL ↔ y = hrefL) (h2:x = srcL ↔ y = srcL):LikeN (x::a) (y::b):=by
 unfold LikeN at *
 simp only [List.mem_cons]
 exact ⟨by rw [h.1,@eq_comm _ hrefL x,h1,@eq_comm _ hrefL y],by rw [h.2,@eq_comm _ srcL x,h2,@eq_comm _ srcL y]⟩
theorem tag_like:∀ (n:Nat) (a b:List (List UInt8)) (s:List UInt8),LikeN a b→tagF Lib.toLowerD n a s = tagF smallU n b s
 | 0,_,_,_,_=>rfl
 | n + 1,a,b,s,h=>by
  unfold tagF
  cases s.dropWhile inGap with
  | nil=>rfl
  | cons c t =>
   simp only
   rw [tag_like n _ _ _ (like_cons h (low_href (nameP (c::t))) (low_src (nameP (c::t)))),mine_like h (low_href (nameP (c::t))) (low_src (nameP (c::t)))]
theorem piece_like (s:List UInt8):pieceP Lib.toLowerD s = pieceP smallU s:=by
 unfold pieceP tagP
 rw [tag_like _ [] [] _ ⟨Iff.rfl,Iff.rfl⟩,tag_like _ [] [] _ ⟨Iff.rfl,Iff.rfl⟩]
theorem findF_like:∀ (n:Nat) (acc:List LK) (s:List UInt8),findF Lib.toLowerD n acc s = findF smallU n acc s
 | 0,_,_=>rfl
 | n + 1,acc,s=>by
  unfold findF
  rw [piece_like,findF_like n]
theorem find_like (s:List UInt8):findP Lib.toLowerD s = findP smallU s:=by
 unfold findP
 rw [findF_like]
end Go.Proofs.YtbbfcbodhmeanaaGreatDoor



namespace Go.Proofs.YtbbfcbodhmeanaaGreatDoor
open Go.RowKit
def sizedP:Nat→PT→Nat × Nat
 | 0,_=>(0,99)
 | f + 1,p =>
  let r:=p.kids.foldl (fun (acc:Option (Nat × Nat)) k=>acc.bind fun a=>if 100 < a.1 + (sizedP f k).1 ∨ 50 < max a.2 (sizedP f k).2 then none else some (a.1 + (sizedP f k).1,max a.2 (sizedP f k).2)) (some (1,0))
  match r with
  | none=>(100,99)
  | some a=>(a.1,a.2 + 1)
def sizedG (f:Nat) (acc:Nat × Nat) (ks:List PT):Option (Nat × Nat):=ks.foldl (fun (acc:Option (Nat × Nat)) k=>acc.bind fun a=>if 100 < a.1 + (sizedP f k).1 ∨ 50 < max a.2 (sizedP f k).2 then none else some (a.1 + (sizedP f k).1,max a.2 (sizedP f k).2)) (some acc)
theorem sizedG_none (f:Nat):∀ ks:List PT,ks.foldl (fun (acc:Option (Nat × Nat)) k=>acc.bind fun a=>if 100 < a.1 + (sizedP f k).1 ∨ 50 < max a.2 (sizedP f k).2 then none else some (a.1 + (sizedP f k).1,max a.2 (sizedP f k).2)) none = none
 | []=>rfl
 | _::ks=>by rw [List.foldl_cons];exact sizedG_none f ks
theorem sizedG_nil (f:Nat) (a:Nat × Nat):sizedG f a [] = some a:=rfl
theorem sizedG_stop (f:Nat) (a:Nat × Nat) (k:PT) (ks:List PT) (h:100 < a.1 + (sizedP f k).1 ∨ 50 < max a.2 (sizedP f k).2):sizedG f a (k::ks) = none:=by
 unfold sizedG;rw [List.foldl_cons,Option.bind_some,if_pos h,sizedG_none]
theorem sizedG_on (f:Nat) (a:Nat × Nat) (k:PT) (ks:List PT) (h:¬ (100 < a.1 + (sizedP f k).1 ∨ 50 < max a.2 (sizedP f k).2)):sizedG f a (k::ks) = sizedG f (a.1 + (sizedP f k).1,max a.2 (sizedP f k).2) ks:=by
 unfold sizedG;rw [List.foldl_cons,Option.bind_some,if_neg h]
def endOf:Option (Nat × Nat)→Nat × Nat
 | none=>(100,99)
 | some a=>(a.1,a.2 + 1)
theorem sizedP_succ (f:Nat) (p:PT):sizedP (f + 1) p = endOf (sizedG f (1,0) p.kids):=by
 rw [sizedP]
 unfold sizedG endOf
 rfl
theorem sizedG_le (f:Nat):∀ (ks:List PT) (a b:Nat × Nat),a.1≤100→a.2≤50→sizedG f a ks = some b→b.1≤100∧b.2≤50
 | [],a,b,h1,h2,h=>by rw [sizedG_nil] at h;cases h;exact ⟨h1,h2⟩
 | k::ks,a,b,h1,h2,h=>by
  by_cases hc:100 < a.1 + (sizedP f k).1 ∨ 50 < max a.2 (sizedP f k).2
  ·rw [sizedG_stop f a k ks hc] at h;cases h
  ·rw [sizedG_on f a k ks hc] at h
   exact sizedG_le f ks _ b (by omega) (by omega) h
theorem sizedP_le (f:Nat) (p:PT):(sizedP f p).1≤100∧(sizedP f p).2≤99:=by
 cases f with
 | zero=>exact ⟨Nat.zero_le _,Nat.le_refl _⟩
 | succ f =>
  rw [sizedP_succ]
  cases h:sizedG f (1,0) p.kids with
  | none=>exact ⟨by decide,by decide⟩
  | some a =>
   have:=sizedG_le f p.kids (1,0) a (by decide) (by decide) h
   exact ⟨this.1,by show a.2 + 1≤99;omega⟩
set_option maxHeartbeats 2000000 in
set_option maxRecDepth 100000 in
theorem sized_any:∀ (f F:Nat) (p:PT) (pb:Option Addr) (cb:Nat) (pk:Option Addr) (ck:Nat) (left:Int) (w:World),left = (f:Int)→f≤10→PHeld w F p pb cb pk ck →
  Calls Tryz.prog 43 #[.agg #[.string p.ty,.string p.cs,.string p.id,.string p.loc,.int .i64 p.how,.slice pb p.body.length cb,.slice pk p.kids.length ck],.int .i64 left] w
   fun e w'=>e = .returned (.tuple #[.int .i64 ((sizedP f p).1:Nat),.int .i64 ((sizedP f p).2:Nat)])∧Below w.heap.size w w':=by
 intro f
 induction f with
 | zero =>
  intro F p pb cb pk ck left w hl _ hH
  subst hl
  clear hH
  have HR:Hid (sizedP 0 p = (0,99)):=rfl
  go_enter Tryz.func43,Tryz.ntmps43
  go_wp2_with fail
  go_ret2
  exact ⟨rfl,(Below.refl _ _).alloc (Nat.le_refl _) _⟩
 | succ f ih =>
  intro F p pb cb pk ck left w hl hf hH
  have hl0:¬ left = 0:=by omega
  have hlb:(left == 0) = false:=by rw [beq_eq_false_iff_ne];omega
  have hl1:left≤10:=by omega
  have hl2:0≤left:=by omega
  have HR:Hid (sizedP (f + 1) p = endOf (sizedG f (1,0) p.kids)):=sizedP_succ f p
  obtain ⟨w1,hw1⟩:∃ w1,w.alloc (.cells #[.string p.ty,.string p.cs,.string p.id,.string p.loc,.int .i64 p.how,.slice pb p.body.length cb,.slice pk p.kids.length ck] 25) = w1:=⟨_,rfl⟩
  have hb1:Below w.heap.size w w1:=by rw [← hw1];exact (Below.refl _ _).alloc (Nat.le_refl _) _
  have x6:w1.cell? ⟨w.heap.size,6,none⟩ = some (.slice pk p.kids.length ck):=by rw [← hw1];simp
  have hkl:p.kids.length≤9223372036854775807:=by have:=hH.1.2.2.2.2.2.2.2;unfold maxLen at this;exact this
  have HKP:Hid (p.kids ≠ []→∃ F' b o,pk = some ⟨b,o,none⟩∧∀ i,i < p.kids.length→PAt w1 F' b (o + i * 7) (p.kids.getD i pt0)):=fun hne=>by
   have hk:KAt w F pk p.kids:=hH.2.2.2.2
   cases F with
   | zero=>exact absurd hk hne
   | succ F' =>
    obtain ⟨b,o,e1,e2⟩:=hk.each hne
    exact ⟨F',b,o,e1,fun i hi=>(e2 i hi).below hb1⟩
  have IH:Hid (∀ (F:Nat) (p:PT) (pb:Option Addr) (cb:Nat) (pk:Option Addr) (ck:Nat) (w:World),PHeld w F p pb cb pk ck →
   Calls Tryz.prog 43 #[.agg #[.string p.ty,.string p.cs,.string p.id,.string p.loc,.int .i64 p.how,.slice pb p.body.length cb,.slice pk p.kids.length ck],.int .i64 (left - 1)] w fun e w'=>e = .returned (.tuple #[.int .i64 ((sizedP f p).1:Nat),.int .i64 ((sizedP f p).2:Nat)])∧Below w.heap.size w w'):=fun F p pb cb pk ck w h=>ih F p pb cb pk ck (left - 1) w (by omega) (by omega) h
  obtain ⟨kids,hkids⟩:∃ kids,p.kids = kids:=⟨_,rfl⟩
  rw [hkids] at HR x6 hkl HKP hw1
  simp only [hkids]
  obtain ⟨n,hn⟩:∃ n,kids.length = n:=⟨_,rfl⟩
  have HN:Hid (kids.length = n):=hn
  rw [hn] at x6 hkl HKP hw1
  simp only [hn]
  clear hn hkids ih hH hl
  generalize sizedP (f + 1) p = RES at *
  go_enter Tryz.func43,Tryz.ntmps43
  go_wp2_with fail
  go_loopw [4,5,15] (fun mv dv iv wr=>∃ (k a d:Nat),k≤n∧iv = .int .i64 k∧mv = .int .i64 (a:Int)∧dv = .int .i64 (d:Int)∧a≤100∧d≤50∧Below w1.heap.size w1 wr∧Hid (RES = endOf (sizedG f (a,d) (kids.drop k)))) (fun _ _ iv _=>n - (intOf iv).toNat)
  case atStart=>exact ⟨0,1,0,Nat.zero_le _,rfl,rfl,rfl,by omega,by omega,Below.refl _ _,HR⟩
  case round =>
   obtain ⟨k,a,d,hk,rfl,rfl,rfl,ha,hd,hbr,HK⟩:=hrel
   have hsr:=hbr.size
   by_cases hlt:k < n
   ·have hlz:(k:Int) < (n:Int):=by omega
    have hne:kids ≠ []:=fun e=>by have:=HN.out;rw [e] at this;simp at this;omega
    obtain ⟨F',bp,op,rfl,hPp⟩:=HKP.out hne
    have hkP:k < kids.length:=by rw [HN.out];exact hlt
    have HP1:=(hPp k hlt).below hbr
    have hdr:kids.drop k = kids.getD k pt0::kids.drop (k + 1):=by
     rw [List.drop_eq_getElem_cons hkP]
     simp [List.getD_eq_getElem?_getD,List.getElem?_eq_getElem hkP]
    rw [hdr] at HK
    obtain ⟨P1,hP1⟩:∃ P1,kids.getD k pt0 = P1:=⟨_,rfl⟩
    rw [hP1] at HK HP1
    obtain ⟨a1,a2,a3,a4,hC1,hH1⟩:=HP1
    obtain ⟨d0,d1,d2,d3,d4,d5,d6⟩:=hC1
    have hbB:bp < wr.heap.size:=World.block_lt_of_cell? wr _ d0
    have IH1:Hid (∀ w',Below wr.heap.size wr w'→Calls Tryz.prog 43 #[.agg #[.string P1.ty,.string P1.cs,.string P1.id,.string P1.loc,.int .i64 P1.how,.slice a1 P1.body.length a2,.slice a3 P1.kids.length a4],.int .i64 (left - 1)] w' fun e w''=>e = .returned (.tuple #[.int .i64 ((sizedP f P1).1:Nat),.int .i64 ((sizedP f P1).2:Nat)])∧Below w'.heap.size w' w''):=fun w' hb=>IH.out F' P1 a1 a2 a3 a4 w' (hH1.below hb)
    have hle:=sizedP_le f P1
    have HST:Hid (100 < a + (sizedP f P1).1 ∨ 50 < max d (sizedP f P1).2→RES = (100,99)):=fun h=>by rw [HK.out,sizedG_stop f (a,d) P1 _ h];rfl
    have HON:Hid (¬ (100 < a + (sizedP f P1).1 ∨ 50 < max d (sizedP f P1).2)→RES = endOf (sizedG f (a + (sizedP f P1).1,max d (sizedP f P1).2) (kids.drop (k + 1)))):=fun h=>by rw [HK.out,sizedG_on f (a,d) P1 _ h]
    clear hPp hP1 hH1 HKP HK hdr
    generalize (sizedP f P1).1 = s1 at *
    generalize (sizedP f P1).2 = s2 at *
    obtain ⟨pt1,pc1,pi1,pl1,ph1,pb1,pk1⟩:=P1
    simp only at d0 d1 d2 d3 d4 d5 d6 IH1
    generalize pb1.length = m1 at *
    generalize pk1.length = m2 at *
    have hba:=(Below.refl wr.heap.size wr).alloc (Nat.le_refl _) (.cells #[.string pt1,.string pc1,.string pi1,.string pl1,.int .i64 ph1,.slice a1 m1 a2,.slice a3 m2 a4] 25)
    obtain ⟨M,hM⟩:∃ M:Nat,max (d:Int) (s2:Int) = (M:Int)∧M = max d s2:=⟨max d s2,by omega,rfl⟩
    have hMz:=hM.1
    go_wp2_with fail
    refine (IH1.out _ hba).mono ?_
    rintro e w2 ⟨rfl,hb2⟩
    have hbel2:Below w1.heap.size w1 w2:=hbr.trans ((hba.trans (hb2.mono (by simp))).mono hsr)
    clear IH1
    by_cases hst:100 < a + s1
    ·have HN2:Hid (RES = (100,99)):=HST.out (.inl hst)
     have hstz:(100:Int) < (a:Int) + (s1:Int):=by omega
     clear HST HON
     go_wp2_with fail
     go_ret2
     exact ⟨by rw [HN2.out];rfl,hb1.trans (hbel2.mono hb1.size)⟩
    ·have hstz:decide ((100:Int) < (a:Int) + (s1:Int)) = false:=by simp;omega
     by_cases hst2:50 < M
     ·have HN2:Hid (RES = (100,99)):=HST.out (.inr (by rw [← hM.2];exact hst2))
      have hst2z:(50:Int) < (M:Int):=by omega
      clear HST HON
      go_wp2_with fail
      go_ret2
      exact ⟨by rw [HN2.out];rfl,hb1.trans (hbel2.mono hb1.size)⟩
     ·have HN2:Hid (RES = endOf (sizedG f (a + s1,M) (kids.drop (k + 1)))):=by unfold Hid;rw [hM.2];exact HON.out (by rw [← hM.2];omega)
      have hst2z:decide ((50:Int) < (M:Int)) = false:=by simp;omega
      clear HST HON
      go_wp2_with fail
      go_roundw
      case rel=>exact ⟨k + 1,a + s1,M,by omega,by go_num,by go_num,by first | rfl | (rw [hM.2]),by omega,by omega,hbel2,HN2⟩
      case measure=>simp [intOf];omega
   ·have hlz:¬ ((k:Int) < (n:Int)):=by omega
    have HN2:Hid (RES = (a,d + 1)):=by unfold Hid;rw [HK.out,List.drop_of_length_le (by rw [HN.out];omega),sizedG_nil];rfl
    clear HK HKP IH
    go_wp2_with fail
    go_ret2
    exact ⟨by rw [HN2.out];first | rfl | simp,hb1.trans (hbr.mono hb1.size)⟩
end Go.Proofs.YtbbfcbodhmeanaaGreatDoor



namespace Go.Proofs.YtbbfcbodhmeanaaGreatDoor
def total (f:Nat) (ks:List PT):Nat:=(ks.map fun k=>(tree f k).length).sum
theorem grow_total (f:Nat):∀ (ks:List PT) (acc:List (PT × Option Nat)),(grow f acc ks).length = acc.length + total f ks
 | [],acc=>by simp [grow_nil,total]
 | k::ks,acc=>by
  rw [grow_cons,grow_total f ks]
  simp [total]
  omega
theorem tree_total (f:Nat) (p:PT):(tree (f + 1) p).length = 1 + total f p.kids:=by rw [tree_grow,grow_total];rfl
theorem sized_fits (f:Nat) (hf:f≤3):∀ (ks:List PT) (a d:Nat),(∀ k ∈ ks,(sizedP f k).1 = (tree f k).length∧(sizedP f k).2≤f)→d≤f→(a + total f ks≤100→∃ D,D≤f∧sizedG f (a,d) ks = some (a + total f ks,D))∧(a≤100→100 < a + total f ks→sizedG f (a,d) ks = none)
 | [],a,d,_,hd=>⟨fun _=>⟨d,hd,rfl⟩,fun h1 h2=>by simp [total] at h2;omega⟩
 | k::ks,a,d,h,hd=>by
  obtain ⟨h1,h2⟩:=h k (by simp)
  have ht:total f (k::ks) = (tree f k).length + total f ks:=by simp [total]
  by_cases hc:100 < a + (sizedP f k).1 ∨ 50 < max d (sizedP f k).2
  ·have hs:=sizedG_stop f (a,d) k ks hc
   exact ⟨fun h3=>by rw [ht] at h3;omega,fun _ _=>hs⟩
  ·have hs:=sizedG_on f (a,d) k ks hc
   obtain ⟨g1,g2⟩:=sized_fits f hf ks (a + (sizedP f k).1) (max d (sizedP f k).2) (fun x hx=>h x (by simp [hx])) (by omega)
   rw [hs,ht,h1]
   rw [h1] at g1 g2
   refine ⟨fun h3=>?_,fun h3 h4=>g2 (by omega) (by omega)⟩
   obtain ⟨D,hD,e⟩:=g1 (by omega)
   exact ⟨D,hD,by rw [e,Nat.add_assoc]⟩
theorem sized_grows (f:Nat):∀ (ks:List PT) (a b:Nat × Nat),sizedG f a ks = some b→a.1≤b.1∧a.2≤b.2∧∀ k ∈ ks,(sizedP f k).1≤b.1∧(sizedP f k).2≤b.2
 | [],a,b,h=>by rw [sizedG_nil] at h;cases h;exact ⟨Nat.le_refl _,Nat.le_refl _,fun k hk=>by cases hk⟩
 | k::ks,a,b,h=>by
  by_cases hc:100 < a.1 + (sizedP f k).1 ∨ 50 < max a.2 (sizedP f k).2
  ·rw [sizedG_stop f a k ks hc] at h;cases h
  ·rw [sizedG_on f a k ks hc] at h
   obtain ⟨h1,h2,h3⟩:=sized_grows f ks _ b h
   simp only at h1 h2
   refine ⟨by omega,by omega,fun x hx=>?_⟩
   rcases List.mem_cons.1 hx with e | e
   ·subst e;exact ⟨by omega,by omega⟩
   ·exact h3 x e
theorem total_mem (f:Nat):∀ (ks:List PT) (k:PT),k ∈ ks→(tree f k).length≤total f ks
 | [],k,h=>by cases h
 | x::ks,k,h=>by
  have ht:total f (x::ks) = (tree f x).length + total f ks:=by simp [total]
  rw [ht]
  rcases List.mem_cons.1 h with e | e
  ·subst e;omega
  ·have:=total_mem f ks k e;omega
theorem sized_says:∀ (f:Nat),f≤3→∀ p:PT,((lev f p = true∧(tree f p).length≤12)→(sizedP f p).1 = (tree f p).length∧(sizedP f p).2≤f)∧(¬ (lev f p = true∧(tree f p).length≤12)→12 < (sizedP f p).1 ∨ 3 < (sizedP f p).2)
 | 0,_,p=>⟨(fun h=>absurd h.1 (by rw [lev];decide)),fun _=>.inr (by show 3 < 99;decide)⟩
 | f + 1,hf,p=>by
  have ih:=sized_says f (by omega)
  rw [sizedP_succ,tree_total,lev_succ]
  by_cases hall:∀ k ∈ p.kids,lev f k = true∧(tree f k).length≤12
  ·obtain ⟨g1,g2⟩:=sized_fits f (by omega) p.kids 1 0 (fun k hk=>(ih k).1 (hall k hk)) (Nat.zero_le _)
   have hl:p.kids.all (lev f) = true:=List.all_eq_true.2 fun k hk=>(hall k hk).1
   refine ⟨fun h=>?_,fun h=>?_⟩
   ·obtain ⟨D,hD,e⟩:=g1 (by omega)
    rw [e]
    exact ⟨rfl,by show D + 1≤f + 1;omega⟩
   ·have h12:12 < 1 + total f p.kids:=by
     rcases Nat.lt_or_ge 12 (1 + total f p.kids) with h' | h'
     ·exact h'
     ·exact absurd ⟨hl,h'⟩ h
    rcases Nat.lt_or_ge 100 (1 + total f p.kids) with h' | h'
    ·rw [g2 (by omega) h'];exact .inl (by show 12 < 100;decide)
    ·obtain ⟨D,_,e⟩:=g1 h'
     rw [e]
     exact .inl h12
  ·obtain ⟨k,hk,hb⟩:∃ k ∈ p.kids,¬ (lev f k = true∧(tree f k).length≤12):=by
    rcases Classical.em (∃ k ∈ p.kids,¬ (lev f k = true∧(tree f k).length≤12)) with h | h
    ·exact h
    ·exact absurd (fun k hk=>Classical.not_not.1 fun hb=>h ⟨k,hk,hb⟩) hall
   have hbad:¬ (p.kids.all (lev f) = true∧1 + total f p.kids≤12):=fun h=>hb ⟨List.all_eq_true.1 h.1 k hk,by
    have:=total_mem f p.kids k hk
    omega⟩
   refine ⟨fun h=>absurd h hbad,fun _=>?_⟩
   cases hs:sizedG f (1,0) p.kids with
   | none=>exact .inl (by show 12 < 100;decide)
   | some b =>
    have:=(sized_grows f p.kids (1,0) b hs).2.2 k hk
    rcases (ih k).2 hb with h | h
    ·exact .inl (by show 12 < b.1;omega)
    ·exact .inr (by show 3 < b.2 + 1;omega)
theorem grow_fst (f:Nat):∀ (ks:List PT) (acc:List (PT × Option Nat)),(∀ k ∈ ks,(tree f k).map (·.1) = flatP f k)→(grow f acc ks).map (·.1) = acc.map (·.1) ++ ks.flatMap (flatP f)
 | [],acc,_=>by simp [grow_nil]
 | k::ks,acc,h=>by
  rw [grow_cons,grow_fst f ks _ (fun x hx=>h x (by simp [hx])),List.map_append,List.map_map,List.flatMap_cons,← h k (by simp),List.append_assoc]
  rfl
theorem tree_flat:∀ (f:Nat) (p:PT),(tree f p).map (·.1) = flatP f p
 | 0,_=>rfl
 | f + 1,p=>by rw [tree_grow,grow_fst f p.kids _ (fun k _=>tree_flat f k),flatP_succ];rfl
end Go.Proofs.YtbbfcbodhmeanaaGreatDoor



namespace Go.Proofs.YtbbfcbodhmeanaaGreatDoor
theorem lev_up:∀ (f:Nat) (p:PT),lev f p = true→lev (f + 1) p = true
 | 0,p,h=>by rw [lev] at h;cases h
 | f + 1,p,h=>by
  rw [lev_succ,List.all_eq_true] at h ⊢
  exact fun k hk=>lev_up f k (h k hk)
theorem first_alone (ok:Nat→PT→Bool) (hok:∀ k p,ok k p.alone = ok k p):∀ (l:List PT) (k:Nat),firstP ok k (l.map PT.alone) = firstP ok k l
 | [],_=>rfl
 | p::l,k=>by
  rw [List.map_cons,firstP,firstP,first_alone ok hok l,hok]
  rfl
theorem findW_alone (l:List PT) (wh:List (List UInt8)) (t:List UInt8):findW (l.map PT.alone) wh t = findW l wh t:=by
 unfold findW
 rw [first_alone _ (fun _ _=>rfl),first_alone _ (fun _ _=>rfl)]
theorem goalOf_alone (l:List PT) (wh:List (List UInt8)):goalOf (l.map PT.alone) wh = goalOf l wh:=by
 funext i n x
 unfold goalOf
 rw [findW_alone]
theorem goalsGo_alone (low:List UInt8→List UInt8) (l:List PT) (wh:List (List UInt8)):∀ (r:List PT) (k:Nat) (acc:List GL),goalsGo low (l.map PT.alone) wh k (r.map PT.alone) acc = goalsGo low l wh k r acc
 | [],_,_=>by rw [List.map_nil,goalsGo,goalsGo]
 | p::r,k,acc=>by
  rw [List.map_cons,goalsGo,goalsGo,goalOf_alone]
  have e1:p.alone.ty = p.ty:=rfl
  have e2:p.alone.body = p.body:=rfl
  rw [e1,e2,goalsGo_alone low l wh r]
  cases findP low p.body with
  | none=>rfl
  | some ls=>simp only [goalsGo_alone low l wh r]
theorem goalsGo_like (l:List PT) (wh:List (List UInt8)):∀ (r:List PT) (k:Nat) (acc:List GL),goalsGo lowT l wh k r acc = goalsGo smallU l wh k r acc
 | [],_,_=>by rw [goalsGo,goalsGo]
 | p::r,k,acc=>by
  have e:findP lowT p.body = findP smallU p.body:=find_like p.body
  rw [goalsGo,goalsGo,e,goalsGo_like l wh r]
  cases findP smallU p.body with
  | none=>rfl
  | some ls=>simp only [goalsGo_like l wh r]
theorem places_flat (p:PT) (h:(placesP p).1 = 0):lev 4 p = true∧(flatP 4 p).length≤12∧(placesP p).2.map (·.1) = flatP 4 p:=by
 have hs:=places_spec p
 unfold placesP at h ⊢
 by_cases hl:lev 3 p = true∧(tree 4 p).length≤12
 ·rw [if_pos hl] at hs
  rw [hs] at h ⊢
  simp only at h ⊢
  by_cases hb:firstBad ((tree 4 p).map (abs 0 (-1))) = 0
  ·rw [if_pos hb]
   refine ⟨lev_up 3 p hl.1,by rw [← tree_flat,List.length_map];exact hl.2,?_⟩
   rw [← tree_flat,List.map_map]
   rfl
  ·rw [if_neg hb] at h
   exact absurd h hb
 ·rw [if_neg hl] at hs
  rw [hs] at h
  cases h
theorem goals_ref (p:PT) (h:(placesP p).1 = 0):goalsGo lowT ((placesP p).2.map fun x=>x.1.alone) (whereP (placesP p).2) 0 ((placesP p).2.map fun x=>x.1.alone) [] = goalsGo smallU (flatP 4 p) (whereR 4 p []) 0 (flatP 4 p) []:=by
 have e:((placesP p).2.map fun x=>x.1.alone) = (flatP 4 p).map PT.alone:=by
  rw [← (places_flat p h).2.2,List.map_map]
  rfl
 rw [e,where_places p h,goalsGo_alone,goalsGo_like]
end Go.Proofs.YtbbfcbodhmeanaaGreatDoor


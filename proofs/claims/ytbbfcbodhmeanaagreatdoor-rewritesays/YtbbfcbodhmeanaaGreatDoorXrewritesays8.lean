
import Derived.Test.YtbbfcbodhmeanaaGreatDoorXrewritesays7
import Derived.Laws.ResultCell
namespace Go.Proofs.YtbbfcbodhmeanaaGreatDoor
theorem tag_none (low:List UInt8→List UInt8):∀ (n:Nat) (seen:List (List UInt8)) (s:List UInt8),(tagF low n seen s).1 = none→(tagF low n seen s).2 = []
 | 0,_,_,_=>rfl
 | n + 1,seen,s,h=>by
  unfold tagF at h ⊢
  cases hd:s.dropWhile inGap with
  | nil=>rfl
  | cons c t =>
   rw [hd] at h
   simp only at h ⊢
   split at h
   ·cases h
   ·rename_i h62
    rw [if_neg h62]
    simp only [Option.map_eq_none_iff] at h
    exact tag_none low n _ _ h
theorem tagF_nil (low:List UInt8→List UInt8) (n:Nat) (seen:List (List UInt8)):tagF low n seen [] = (none,[]):=by
 cases n <;> simp [tagF]
theorem tagF_gap (low:List UInt8→List UInt8) (n:Nat) (seen:List (List UInt8)) (g:List UInt8) (c:UInt8) (t:List UInt8) (hg:∀ x ∈ g,inGap x = true) (hc:inGap c = false) :
  tagF low (n + 1) seen (g ++ c::t) = if c = 62 then (some [],t) else ((tagF low n (low (nameP (c::t))::seen) (attrP (c::t)).2).1.map (mineP seen (low (nameP (c::t))) (attrP (c::t)).1 ++ ·),(tagF low n (low (nameP (c::t))::seen) (attrP (c::t)).2).2):=by
 obtain ⟨_,e⟩:=tw_app inGap g (c::t) hg (fun y hy=>by simp at hy;subst hy;exact hc)
 rw [tagF,e]
theorem lefts_lit (t:List UInt8) (ss:List SG) (k:Nat):leftsS ((false,t)::ss) k = leftsS ss k:=rfl
theorem lefts_val (t:List UInt8) (ss:List SG) (k:Nat):leftsS ((true,t)::ss) k = ((t ++ flatS ss).length + k,t)::leftsS ss k:=rfl
theorem flat_cons (b:Bool) (t:List UInt8) (ss:List SG):flatS ((b,t)::ss) = t ++ flatS ss:=rfl
theorem tag_seg (low:List UInt8→List UInt8):∀ (n:Nat) (seen:List (List UInt8)) (s:List UInt8) (l:List LK) (rest:List UInt8),tagF low n seen s = (some l,rest) →
  ∃ c lit ss,s = flatS ((false,c::lit)::ss) ++ rest∧l = leftsS ((false,c::lit)::ss) rest.length ∧
   ∀ (ss':List SG) (rest':List UInt8) (n':Nat),Rep ss ss'→(flatS ((false,c::lit)::ss') ++ rest').length < n'→tagF low n' seen (flatS ((false,c::lit)::ss') ++ rest') = (some (leftsS ((false,c::lit)::ss') rest'.length),rest')
 | 0,_,_,_,_,h=>by simp [tagF] at h
 | n + 1,seen,s,l,rest,h=>by
  have es:=tw_dw inGap s
  have hg:=tw_all inGap s
  have hst:=dw_stops inGap s
  cases hd:s.dropWhile inGap with
  | nil=>rw [tagF,hd] at h;simp at h
  | cons c t =>
   rw [hd] at es hst
   have hc:=hst c rfl
   generalize s.takeWhile inGap = g at es hg
   subst es
   rw [tagF_gap low n seen g c t hg hc] at h
   by_cases h62:c = 62
   ·rw [if_pos h62] at h
    subst h62
    simp only [Prod.mk.injEq,Option.some.injEq] at h
    obtain ⟨rfl,rfl⟩:=h
    have hgl:∃ c0 lit,g ++ [62] = c0::lit:=by cases g <;> simp
    obtain ⟨c0,lit,hcl⟩:=hgl
    refine ⟨c0,lit,[],by rw [flat_cons,← hcl];simp [flatS],rfl,fun ss' rest' n' hR hn=>?_⟩
    rw [hR.nil] at hn ⊢
    rw [flat_cons,← hcl] at hn ⊢
    simp only [flatS,List.append_nil,List.append_assoc,List.cons_append,List.nil_append] at hn ⊢
    obtain ⟨m,rfl⟩:∃ m,n' = m + 1:=⟨n' - 1,by omega⟩
    rw [tagF_gap low m seen g 62 rest' hg hc,if_pos rfl]
    rfl
   ·rw [if_neg h62] at h
    simp only [Prod.mk.injEq,Option.map_eq_some_iff] at h
    obtain ⟨⟨l1,h1,h2⟩,h3⟩:=h
    have hrec:tagF low n (low (nameP (c::t))::seen) (attrP (c::t)).2 = (some l1,rest):=Prod.ext h1 h3
    have hne:(attrP (c::t)).2 ≠ []:=fun e=>by rw [e,tagF_nil] at hrec;simp at hrec
    obtain ⟨c1,lit1,ss1,k1,k2,k3⟩:=tag_seg low n _ _ _ _ hrec
    have hseg:=attr_seg c t (attrP (c::t)).1 (attrP (c::t)).2 rfl hne
    generalize (attrP (c::t)).2 = r at k1 hseg hne
    generalize (attrP (c::t)).1 = v at h2 hseg
    generalize hnm:nameP (c::t) = nm at h2 k3 hseg
    have hhead:∀ (ss':List SG) (rest':List UInt8),(flatS ((false,c1::lit1)::ss') ++ rest').head? = r.head?:=by
     intro ss' rest';rw [k1];rfl
    rcases hseg with ⟨rfl,c2,pre,e1,e2⟩ | ⟨x,rfl,c2,pre,raw,post,e1,e2,e3⟩
    ·have hc2:c2 = c:=by rw [List.cons_append] at e1;exact (List.cons.inj e1).1.symm
     subst hc2
     have hgl:∃ c0 lit,g ++ (c2::pre) = c0::lit:=by cases g <;> simp
     obtain ⟨c0,lit,hcl⟩:=hgl
     refine ⟨c0,lit,(false,c1::lit1)::ss1,?_,?_,fun ss' rest' n' hR hn=>?_⟩
     ·rw [flat_cons,← hcl,e1,k1];simp
     ·rw [← h2,k2];rfl
     ·obtain ⟨us,rfl,hR1⟩:=hR.lit
      have eX:flatS ((false,c0::lit)::(false,c1::lit1)::us) ++ rest' = g ++ c2::(pre ++ (flatS ((false,c1::lit1)::us) ++ rest')):=by
       rw [flat_cons,← hcl];simp
      rw [eX] at hn ⊢
      obtain ⟨m,rfl⟩:∃ m,n' = m + 1:=⟨n' - 1,by omega⟩
      obtain ⟨e4,e5⟩:=e2 (flatS ((false,c1::lit1)::us) ++ rest') (hhead us rest')
      rw [List.cons_append] at e4 e5
      rw [tagF_gap low m seen g c2 _ hg hc,if_neg h62,e4,e5,hnm]
      rw [k3 us rest' m hR1 (by simp only [List.length_append,List.length_cons] at hn ⊢;omega)]
      rfl
    ·have hc2:c2 = c:=by rw [List.cons_append] at e1;exact (List.cons.inj e1).1.symm
     subst hc2
     by_cases hk:seen.contains (low nm) = false∧(low nm = hrefL ∨ low nm = srcL)
     ·have hgl:∃ c0 lit,g ++ (c2::pre) = c0::lit:=by cases g <;> simp
      obtain ⟨c0,lit,hcl⟩:=hgl
      refine ⟨c0,lit,(true,raw)::(false,post)::(false,c1::lit1)::ss1,?_,?_,fun ss' rest' n' hR hn=>?_⟩
      ·rw [flat_cons,← hcl,e1,k1];simp [flatS]
      ·rw [← h2,k2,e2,k1]
       simp only [mineP,lefts_lit,lefts_val]
       rw [if_pos hk]
       simp [flatS];omega
      ·obtain ⟨raw',us1,rfl,hok,hR1⟩:=hR.val
       obtain ⟨us2,rfl,hR2⟩:=hR1.lit
       obtain ⟨us,rfl,hR3⟩:=hR2.lit
       have eX:flatS ((false,c0::lit)::(true,raw')::(false,post)::(false,c1::lit1)::us) ++ rest' = g ++ c2::(pre ++ (raw' ++ (post ++ (flatS ((false,c1::lit1)::us) ++ rest')))):=by
        rw [flat_cons,← hcl];simp [flatS]
       rw [eX] at hn ⊢
       obtain ⟨m,rfl⟩:∃ m,n' = m + 1:=⟨n' - 1,by omega⟩
       obtain ⟨e4,e5⟩:=e3 raw' (flatS ((false,c1::lit1)::us) ++ rest') hok (hhead us rest')
       rw [List.cons_append] at e4 e5
       rw [tagF_gap low m seen g c2 _ hg hc,if_neg h62,e4,e5,hnm]
       rw [k3 us rest' m hR3 (by simp only [List.length_append,List.length_cons] at hn ⊢;omega)]
       simp only [mineP,lefts_lit,lefts_val]
       rw [if_pos hk]
       simp [flatS];omega
     ·have hgl:∃ c0 lit,g ++ ((c2::pre) ++ (raw ++ post)) = c0::lit:=by cases g <;> simp
      obtain ⟨c0,lit,hcl⟩:=hgl
      refine ⟨c0,lit,(false,c1::lit1)::ss1,?_,?_,fun ss' rest' n' hR hn=>?_⟩
      ·rw [flat_cons,← hcl,e1,k1];simp
      ·rw [← h2,k2]
       simp only [mineP,lefts_lit]
       rw [if_neg hk]
       rfl
      ·obtain ⟨us,rfl,hR1⟩:=hR.lit
       have eX:flatS ((false,c0::lit)::(false,c1::lit1)::us) ++ rest' = g ++ c2::(pre ++ (raw ++ (post ++ (flatS ((false,c1::lit1)::us) ++ rest')))):=by
        rw [flat_cons,← hcl];simp
       rw [eX] at hn ⊢
       obtain ⟨m,rfl⟩:∃ m,n' = m + 1:=⟨n' - 1,by omega⟩
       obtain ⟨e4,e5⟩:=e3 raw (flatS ((false,c1::lit1)::us) ++ rest') (.inl rfl) (hhead us rest')
       rw [List.cons_append] at e4 e5
       rw [tagF_gap low m seen g c2 _ hg hc,if_neg h62,e4,e5,hnm]
       rw [k3 us rest' m hR1 (by simp only [List.length_append,List.length_cons] at hn ⊢;omega)]
       simp only [mineP,lefts_lit]
       rw [if_neg hk]
       rfl
theorem behind_seg (m s:List UInt8) (hm:m ≠ []):(Lib.index s m < 0∧behindL m s = []) ∨ ∃ x,s = x ++ (m ++ behindL m s)∧∀ r,behindL m (x ++ (m ++ r)) = r:=by
 have hpos:0 < m.length:=List.length_pos_iff.2 hm
 rcases Lib.index_spec s m with ⟨h,_⟩ | ⟨i,h,hi,ho,hno⟩
 ·left
  have:Lib.index s m < 0:=by omega
  exact ⟨this,by unfold behindL;rw [if_pos this]⟩
 ·right
  have hp:m <+: s.drop i:=by unfold Lib.occAt at ho;exact List.isPrefixOf_iff_prefix.1 ho
  obtain ⟨r0,hr0⟩:=hp
  have hb:behindL m s = s.drop (i + m.length):=by unfold behindL;rw [if_neg (by omega),h];rfl
  have hdrop:s.drop (i + m.length) = r0:=by rw [← List.drop_drop,← hr0];simp
  have hs:s = s.take i ++ (m ++ r0):=by rw [hr0,List.take_append_drop]
  have hlen:(s.take i).length = i:=by simp;omega
  refine ⟨s.take i,by rw [hb,hdrop];exact hs,fun r=>?_⟩
  generalize s.take i = x at hs hlen
  have hidx:Lib.index (x ++ (m ++ r)) m = (i:Int):=by
   refine Lib.index_hit (fun j hj=>?_) (by simp;omega) ?_
   ·have h1:=hno j hj
    unfold Lib.occAt at h1 ⊢
    rw [hs] at h1
    have e:∀ q:List UInt8,(x ++ (m ++ q)).drop j = (x.drop j ++ m) ++ q:=fun q=>by rw [List.drop_append_of_le_length (by omega),List.append_assoc]
    rw [e] at h1 ⊢
    cases hh:m.isPrefixOf ((x.drop j ++ m) ++ r) with
    | false=>rfl
    | true =>
     have h2:=List.isPrefixOf_iff_prefix.1 hh
     have h3:m <+: x.drop j ++ m:=List.prefix_of_prefix_length_le h2 (List.prefix_append _ _) (by simp)
     have h4:m <+: (x.drop j ++ m) ++ r0:=h3.trans (List.prefix_append _ _)
     rw [List.isPrefixOf_iff_prefix.2 h4] at h1
     cases h1
   ·unfold Lib.occAt
    rw [← hlen,List.drop_left]
    exact List.isPrefixOf_iff_prefix.2 (List.prefix_append _ _)
  unfold behindL
  rw [if_neg (by omega),hidx]
  rw [Int.toNat_natCast,← List.drop_drop,← hlen,List.drop_left,List.drop_left]
end Go.Proofs.YtbbfcbodhmeanaaGreatDoor



namespace Go.Proofs.YtbbfcbodhmeanaaGreatDoor
theorem tagB_one (c:UInt8) (t:List UInt8):tagB [60] (60::c::t) = letB c:=by simp [tagB,headL,List.isPrefixOf]
theorem let_facts {c:UInt8} (h:letB c = true):inName c = true∧c ≠ 33∧c ≠ 63∧c ≠ 47:=by
 have n:∀ x:UInt8,letB x = false→c ≠ x:=fun x hx e=>by rw [e,hx] at h;cases h
 have a1:=n 32 (by decide);have a2:=n 9 (by decide);have a3:=n 13 (by decide);have a4:=n 10 (by decide);have a5:=n 12 (by decide)
 have b1:=n 62 (by decide);have b2:=n 47 (by decide)
 exact ⟨by simp [inName,spB,a1,a2,a3,a4,a5,b1,b2],n 33 (by decide),n 63 (by decide),b2⟩
theorem piece_tag (low:List UInt8→List UInt8) (c:UInt8) (t:List UInt8) (h:letB c = true):pieceP low (60::c::t) = ((tagP low (c::t)).1.getD [],(tagP low (c::t)).2):=by
 obtain ⟨_,h1,h2,_⟩:=let_facts h
 unfold pieceP
 rw [if_neg (by simp [comL,List.isPrefixOf,Ne.symm h1]),if_neg (by simp [List.isPrefixOf,Ne.symm h1,Ne.symm h2]),if_pos (by rw [tagB_one,h])]
 rfl
theorem piece_shut (low:List UInt8→List UInt8) (c:UInt8) (t:List UInt8) (h:letB c = true):pieceP low (60::47::c::t) = ([],(tagP low (c::t)).2):=by
 unfold pieceP
 rw [if_neg (by simp [comL,List.isPrefixOf]),if_neg (by simp [List.isPrefixOf]),if_neg (by rw [tagB_one];decide),if_pos (by simp [tagB,headL,List.isPrefixOf,h])]
 rfl
theorem piece_com (low:List UInt8→List UInt8) (t:List UInt8):pieceP low (60::33::45::45::t) = ([],behindL comE t):=by
 unfold pieceP
 rw [if_pos (by simp [comL,List.isPrefixOf])]
 rfl
def other (s:List UInt8):Bool:=match s with
 | a::b::r=>if a = 60 then (if b = 33 ∨ b = 63 then false else if b = 47 then !headL r else !letB b) else true
 | _=>true
theorem piece_other (low:List UInt8→List UInt8) (c:UInt8) (t:List UInt8) (h:other (c::t) = true):pieceP low (c::t) = ([],t):=by
 by_cases hc:c = 60
 ·subst hc
  cases t with
  | nil=>simp [pieceP,comL,List.isPrefixOf,tagB,headL]
  | cons d t =>
   simp only [other,if_true] at h
   by_cases hd0:d = 33 ∨ d = 63
   ·rw [if_pos hd0] at h;cases h
   ·rw [if_neg hd0] at h
    have hd1:d ≠ 33:=fun e=>hd0 (.inl e)
    have hd2:d ≠ 63:=fun e=>hd0 (.inr e)
    unfold pieceP
    rw [if_neg (by simp [comL,List.isPrefixOf,Ne.symm hd1]),if_neg (by simp [List.isPrefixOf,Ne.symm hd1,Ne.symm hd2])]
    by_cases hd:d = 47
    ·rw [if_pos hd] at h
     subst hd
     have hx:headL t = false:=by simpa using h
     rw [if_neg (by rw [tagB_one];decide),if_neg (by simp [tagB,List.isPrefixOf,hx])]
     rfl
    ·rw [if_neg hd] at h
     have hl:letB d = false:=by simpa using h
     rw [if_neg (by rw [tagB_one,hl];decide),if_neg (by simp [tagB,List.isPrefixOf,Ne.symm hd])]
     rfl
 ·simp [pieceP,comL,List.isPrefixOf,tagB,Ne.symm hc]
theorem other_take (c:UInt8) (t u:List UInt8) (h:u.take 2 = t.take 2):other (c::u) = other (c::t):=by
 match t,u,h with
 | [],[],_=>rfl
 | [],_::_,h=>simp at h
 | _::_,[],h=>simp at h
 | [x],[y],h=>simp at h;subst h;rfl
 | [x],y::z::u,h=>simp at h
 | x::z::t,[y],h=>simp at h
 | x::z::t,y::z'::u,h =>
  simp at h
  obtain ⟨rfl,rfl⟩:=h
  rfl
def PieceOK (low:List UInt8→List UInt8) (s:List UInt8):Prop:=∃ segs,s = flatS segs ++ (pieceP low s).2∧(pieceP low s).1 = leftsS segs (pieceP low s).2.length ∧
 ∀ (segs':List SG) (rest':List UInt8),Rep segs segs'→rest'.take 2 = (pieceP low s).2.take 2→pieceP low (flatS segs' ++ rest') = (leftsS segs' rest'.length,rest')∧(flatS segs' ++ rest').take 2 = s.take 2
theorem take2_nil {r:List UInt8} (h:r.take 2 = ([]:List UInt8).take 2):r = []:=by
 cases r with
 | nil=>rfl
 | cons x r=>simp at h
theorem piece_end (low:List UInt8→List UInt8) (s:List UInt8) (h:pieceP low s = ([],[])):PieceOK low s:=by
 unfold PieceOK
 rw [h]
 refine ⟨[(false,s)],by simp [flatS],rfl,fun segs' rest' hR hr=>?_⟩
 obtain ⟨us,rfl,hn⟩:=hR.lit
 obtain rfl:=hn.nil
 obtain rfl:=take2_nil hr
 simp only [flatS,List.append_nil]
 exact ⟨h,trivial⟩
theorem piece_lit (low:List UInt8→List UInt8) (a b:UInt8) (x r:List UInt8) (h:∀ r',pieceP low (a::b::(x ++ r')) = ([],r')):PieceOK low (a::b::(x ++ r)):=by
 unfold PieceOK
 rw [h]
 refine ⟨[(false,a::b::x)],by simp [flatS],rfl,fun segs' rest' hR hr=>?_⟩
 obtain ⟨us,rfl,hn⟩:=hR.lit
 obtain rfl:=hn.nil
 simp only [flatS,List.append_nil,List.cons_append]
 rw [h]
 exact ⟨rfl,by simp⟩
theorem tagP_name (low:List UInt8→List UInt8) (nm X:List UInt8) (hn:∀ c ∈ nm,inName c = true) (hX:Stops inName X):tagP low (nm ++ X) = tagF low (X.length + 1) [] X:=by
 unfold tagP
 rw [(tw_app inName nm X hn hX).2]
theorem piece_two (low:List UInt8→List UInt8) (c:UInt8) (t:List UInt8) (hc:c = 33 ∨ c = 63) (hn:comL.isPrefixOf (60::c::t) = false):pieceP low (60::c::t) = ([],behindL [62] (60::c::t)):=by
 unfold pieceP
 rw [if_neg (by rw [hn];decide),if_pos (by rcases hc with rfl | rfl <;> simp [List.isPrefixOf])]
theorem com_far (c:UInt8) (t r r':List UInt8) (h:comL.isPrefixOf (60::c::(t ++ 62::r)) = false):comL.isPrefixOf (60::c::(t ++ 62::r')) = false:=by
 match t,h with
 | [],_=>simp [comL,List.isPrefixOf]
 | [x],_=>simp [comL,List.isPrefixOf]
 | x::y::t,h=>simpa [comL,List.isPrefixOf] using h
theorem piece_ok (low:List UInt8→List UInt8) (c:UInt8) (t:List UInt8):PieceOK low (c::t):=by
 by_cases ho:other (c::t) = true
 ·unfold PieceOK
  rw [piece_other low c t ho]
  refine ⟨[(false,[c])],rfl,rfl,fun segs' rest' hR hr=>?_⟩
  obtain ⟨us,rfl,hn⟩:=hR.lit
  obtain rfl:=hn.nil
  simp only [flatS,List.append_nil,List.cons_append,List.nil_append]
  simp only at hr
  rw [piece_other low c rest' (by rw [other_take c t rest' hr];exact ho)]
  refine ⟨rfl,?_⟩
  have:rest'.take 1 = t.take 1:=by
   have h1:=congrArg (List.take 1) hr
   simpa [List.take_take] using h1
  simp [this]
 ·have hc:c = 60:=by
   by_cases e:c = 60
   ·exact e
   ·exact absurd (by cases t <;> simp [other,e]) ho
  subst hc
  cases t with
  | nil=>exact absurd rfl ho
  | cons d t =>
   by_cases hd:d = 33 ∨ d = 63
   ·by_cases hcom:comL.isPrefixOf (60::d::t) = true
    ·obtain ⟨u,hu⟩:=List.isPrefixOf_iff_prefix.1 hcom
     rw [← hu]
     show PieceOK low (60::33::45::45::u)
     rcases behind_seg comE u (by simp [comE]) with ⟨_,hb⟩ | ⟨x,hx,hb⟩
     ·exact piece_end low _ (by rw [piece_com,hb])
     ·have:=piece_lit low 60 33 (45::45::(x ++ comE)) (behindL comE u) (fun r'=>by
       have e:(45::45::(x ++ comE)) ++ r' = 45::45::(x ++ (comE ++ r')):=by simp
       rw [e,piece_com,hb])
      have e:(45::45::(x ++ comE)) ++ behindL comE u = 45::45::u:=by
       conv=>rhs;rw [hx]
       simp
      rw [e] at this
      exact this
    ·have hcom':comL.isPrefixOf (60::d::t) = false:=Bool.eq_false_iff.2 hcom
     rcases behind_seg [62] (60::d::t) (by simp) with ⟨_,hb⟩ | ⟨x,hx,hb⟩
     ·exact piece_end low _ (by rw [piece_two low d t hd hcom',hb])
     ·match x,hx,hb with
      | [],hx,_=>simp at hx
      | [a],hx,_=>simp at hx;rcases hd with h | h <;> rw [hx.2.1] at h <;> cases h
      | a::b::x,hx,hb =>
       have h1:60 = a∧d = b∧t = x ++ (62::behindL [62] (60::d::t)):=by simpa using hx
       obtain ⟨rfl,rfl,h2⟩:=h1
       rw [h2] at hcom' ⊢
       have:=piece_lit low 60 d (x ++ [62]) (behindL [62] (60::d::t)) (fun r'=>by
        have e:(x ++ [62]) ++ r' = x ++ 62::r':=by simp
        rw [e,piece_two low d _ hd (com_far d x _ r' hcom')]
        have:=hb r'
        simp only [List.cons_append,List.nil_append] at this
        rw [this])
       simpa using this
   ·have hd1:d ≠ 33:=fun e=>hd (.inl e)
    have hd2:d ≠ 63:=fun e=>hd (.inr e)
    by_cases hd3:d = 47
    ·subst hd3
     cases t with
     | nil=>exact absurd rfl ho
     | cons x t =>
      have hl:letB x = true:=by
       cases hx:letB x with
       | true=>rfl
       | false=>exact absurd (by simp [other,headL,hx]) ho
      have es:=tw_dw inName (x::t)
      have hn:=tw_all inName (x::t)
      have hst:=dw_stops inName (x::t)
      generalize (x::t).takeWhile inName = nm at es hn
      generalize (x::t).dropWhile inName = X at es hst
      have hP:=piece_shut low x t hl
      rw [← es,tagP_name low nm X hn hst] at hP
      cases ho:(tagF low (X.length + 1) [] X).1 with
      | none =>
       rw [tag_none low _ _ _ ho] at hP
       exact piece_end low _ (by rw [← es];exact hP)
      | some l =>
       obtain ⟨c1,lit,ss,k1,k2,k3⟩:=tag_seg low (X.length + 1) [] X l (tagF low (X.length + 1) [] X).2 (Prod.ext ho rfl)
       generalize (tagF low (X.length + 1) [] X).2 = rest at k1 k2 k3 hP
       have hnm:∃ x' nm',nm = x'::nm'∧letB x' = true:=by
        cases nm with
        | nil =>
         rw [List.nil_append] at es
         have:=hst x (by rw [es];rfl)
         rw [(let_facts hl).1] at this;cases this
        | cons y nm=>rw [List.cons_append,List.cons.injEq] at es;exact ⟨y,nm,rfl,es.1 ▸ hl⟩
       obtain ⟨x',nm',rfl,hl'⟩:=hnm
       rw [← es,k1]
       have:=piece_lit low 60 47 ((x'::nm') ++ flatS ((false,c1::lit)::ss)) rest (fun r'=>by
        have e:((x'::nm') ++ flatS ((false,c1::lit)::ss)) ++ r' = x'::(nm' ++ (flatS ((false,c1::lit)::ss) ++ r')):=by simp
        rw [e,piece_shut low x' _ hl',← List.cons_append,tagP_name low (x'::nm') _ hn (stops_head hst (by rw [k1];rfl))]
        rw [k3 ss r' _ (Rep.refl ss) (Nat.lt_succ_self _)])
       simpa using this
    ·have hl:letB d = true:=by
      cases hx:letB d with
      | true=>rfl
      | false=>exact absurd (by simp [other,hd,hd3,hx]) ho
     have es:=tw_dw inName (d::t)
     have hn:=tw_all inName (d::t)
     have hst:=dw_stops inName (d::t)
     generalize (d::t).takeWhile inName = nm at es hn
     generalize (d::t).dropWhile inName = X at es hst
     have hP:=piece_tag low d t hl
     rw [← es,tagP_name low nm X hn hst] at hP
     cases ho:(tagF low (X.length + 1) [] X).1 with
     | none =>
      rw [tag_none low _ _ _ ho,ho] at hP
      exact piece_end low _ (by rw [← es];exact hP)
     | some l =>
      obtain ⟨c1,lit,ss,k1,k2,k3⟩:=tag_seg low (X.length + 1) [] X l (tagF low (X.length + 1) [] X).2 (Prod.ext ho rfl)
      rw [ho] at hP
      generalize (tagF low (X.length + 1) [] X).2 = rest at k1 k2 k3 hP
      have hnm:∃ x' nm',nm = x'::nm'∧letB x' = true:=by
       cases nm with
       | nil =>
        rw [List.nil_append] at es
        have:=hst d (by rw [es];rfl)
        rw [(let_facts hl).1] at this;cases this
       | cons y nm=>rw [List.cons_append,List.cons.injEq] at es;exact ⟨y,nm,rfl,es.1 ▸ hl⟩
      obtain ⟨x',nm',rfl,hl'⟩:=hnm
      rw [← es]
      unfold PieceOK
      rw [hP]
      refine ⟨(false,60::x'::nm')::(false,c1::lit)::ss,?_,?_,fun segs' rest' hR hr=>?_⟩
      ·rw [flat_cons];simp only;conv=>lhs;rw [k1]
       simp
      ·simp only [Option.getD_some];rw [k2];rfl
      ·obtain ⟨us0,rfl,hR0⟩:=hR.lit
       obtain ⟨us,rfl,hR1⟩:=hR0.lit
       have e:flatS ((false,60::x'::nm')::(false,c1::lit)::us) ++ rest' = 60::x'::(nm' ++ (flatS ((false,c1::lit)::us) ++ rest')):=by rw [flat_cons];simp
       rw [e,piece_tag low x' _ hl',← List.cons_append,tagP_name low (x'::nm') _ hn (stops_head hst (by rw [k1];rfl))]
       rw [k3 us rest' _ hR1 (Nat.lt_succ_self _)]
       exact ⟨rfl,by simp⟩
theorem find_seg (low:List UInt8→List UInt8):∀ (n:Nat) (acc:List LK) (s:List UInt8) (L:List LK),s.length≤n→findF low n acc s = some L →
  ∃ segs,s = flatS segs∧L = acc ++ leftsS segs 0∧∀ (segs':List SG) (acc':List LK) (n':Nat),Rep segs segs'→acc'.length = acc.length→(flatS segs').length≤n'→findF low n' acc' (flatS segs') = some (acc' ++ leftsS segs' 0)∧(flatS segs').take 2 = s.take 2
 | 0,acc,s,L,hs,h=>by
  obtain rfl:s = []:=List.length_eq_zero_iff.1 (by omega)
  simp only [findF,Option.some.injEq] at h
  subst h
  refine ⟨[],rfl,by simp [leftsS],fun segs' acc' n' hR _ _=>?_⟩
  obtain rfl:=hR.nil
  cases n' <;> simp [findF,flatS,leftsS]
 | n + 1,acc,[],L,hs,h=>by
  simp only [findF,if_true,Option.some.injEq] at h
  subst h
  refine ⟨[],rfl,by simp [leftsS],fun segs' acc' n' hR _ _=>?_⟩
  obtain rfl:=hR.nil
  cases n' <;> simp [findF,flatS,leftsS]
 | n + 1,acc,c::t,L,hs,h=>by
  have hlen:=piece_len low c t
  obtain ⟨sg1,h1,h2,h3⟩:=piece_ok low c t
  rw [findF,if_neg (by simp)] at h
  split at h
  ·cases h
  ·rename_i h60
   generalize (pieceP low (c::t)).1 = l1 at h h2 h60
   generalize (pieceP low (c::t)).2 = rest at h h1 h2 h3 hlen
   obtain ⟨sg2,k1,k2,k3⟩:=find_seg low n (acc ++ l1) rest L (by omega) h
   refine ⟨sg1 ++ sg2,by rw [flat_app,← k1];exact h1,?_,fun segs' acc' n' hR ha hn=>?_⟩
   ·rw [k2,h2,lefts_app,k1,List.append_assoc];rfl
   ·obtain ⟨sg1',sg2',rfl,hR1,hR2⟩:=hR.app
    rw [flat_app] at hn ⊢
    obtain ⟨_,j2⟩:=k3 sg2' (acc ++ l1) _ hR2 rfl (Nat.le_refl _)
    obtain ⟨j3,j4⟩:=h3 sg1' (flatS sg2') hR1 j2
    refine ⟨?_,j4⟩
    have hlr:∀ (a b:List SG) (k m:Nat),Rep a b→(leftsS a k).length = (leftsS b m).length:=by
     intro a
     induction a with
     | nil=>intro b k m h;rw [h.nil];rfl
     | cons x a ih =>
      intro b k m h
      cases b with
      | nil=>exact h.elim
      | cons y b =>
       obtain ⟨g1,_,_,g4⟩:=h
       have:=ih b k m g4
       simp only [leftsS]
       rw [← g1]
       split <;> simp [this]
    cases hf:flatS sg1' ++ flatS sg2' with
    | nil=>rw [hf] at j4;cases t <;> simp at j4
    | cons y u =>
     rw [hf] at j3 hn
     have hpl:=piece_len low y u
     obtain ⟨m,rfl⟩:∃ m,n' = m + 1:=⟨n' - 1,by simp at hn;omega⟩
     rw [findF,if_neg (by simp),j3]
     have hl1:(leftsS sg1' (flatS sg2').length).length = l1.length:=by rw [h2];exact (hlr _ _ _ _ hR1).symm
     rw [if_neg (by simp only [List.length_append] at h60 ⊢;omega)]
     rw [j3] at hpl
     obtain ⟨j5,_⟩:=k3 sg2' (acc' ++ leftsS sg1' (flatS sg2').length) m hR2 (by simp only [List.length_append];omega) (by simp only [List.length_cons] at hn hpl;omega)
     simp only
     rw [j5,lefts_app,List.append_assoc]
     rfl
end Go.Proofs.YtbbfcbodhmeanaaGreatDoor



namespace Go.Proofs.YtbbfcbodhmeanaaGreatDoor
open Go.RowKit
def lba (l:List UInt8):ByteArray:=⟨l.toArray⟩
theorem lba_data (l:List UInt8):(lba l).data.toList = l:=rfl
theorem lba_size (l:List UInt8):(lba l).size = l.length:=by rw [Lib.size_eq,lba_data]
theorem lba_inj {a b:ByteArray} (h:a.data.toList = b.data.toList):a = b:=ByteArray.ext (Array.toList_inj.1 h)
def pos (p:ByteArray) (s:List UInt8):Nat:=p.size - s.length
abbrev Suf (p:ByteArray) (s:List UInt8):Prop:=s <:+ p.data.toList
theorem Suf.len {p:ByteArray} {s:List UInt8} (h:Suf p s):s.length≤p.size:=by rw [Lib.size_eq];exact h.length_le
theorem Suf.drop {p:ByteArray} {s:List UInt8} (h:Suf p s):p.data.toList.drop (pos p s) = s:=by
 unfold pos
 rw [Lib.size_eq]
 exact (List.suffix_iff_eq_drop.1 h).symm
theorem pos_le (p:ByteArray) (s:List UInt8):pos p s≤p.size:=by unfold pos;omega
theorem pos_plus {p:ByteArray} {s a r:List UInt8} (h:Suf p s) (e:a ++ r = s):pos p r = pos p s + a.length:=by
 have:=h.len
 subst e
 unfold pos
 simp only [List.length_append] at this ⊢
 omega
theorem ext_of {p:ByteArray} {s a r:List UInt8} (h:Suf p s) (e:a ++ r = s):p.extract (pos p s) (pos p r) = lba a:=by
 have hd:=h.drop
 have hp:=pos_plus h e
 refine lba_inj ?_
 rw [hp,lba_data]
 have e1:(p.extract (pos p s) (pos p s + a.length)).data.toList = ((p.data.toList.drop (pos p s)).take a.length):=by
  rw [Lib.extract_data,show pos p s + a.length - pos p s = a.length from by omega]
 rw [e1,hd,← e,List.take_left]
theorem ext_end {p:ByteArray} {s:List UInt8} (h:Suf p s):p.extract (pos p s) p.size = lba s:=by
 have:=ext_of h (List.append_nil s)
 have e:pos p ([]:List UInt8) = p.size:=rfl
 rw [e] at this
 exact this
theorem Suf.dw {p:ByteArray} {s:List UInt8} (h:Suf p s) (q:UInt8→Bool):Suf p (s.dropWhile q):=(List.dropWhile_suffix q).trans h
theorem Suf.dr {p:ByteArray} {s:List UInt8} (h:Suf p s) (n:Nat):Suf p (s.drop n):=(List.drop_suffix n s).trans h
theorem Suf.tl {p:ByteArray} {c:UInt8} {s:List UInt8} (h:Suf p (c::s)):Suf p s:=(List.suffix_cons c s).trans h
theorem behind_suf (m s:List UInt8):behindL m s <:+ s:=by
 unfold behindL
 split
 ·exact List.nil_suffix
 ·exact List.drop_suffix _ _
theorem pass_suf (F:Nat) (caps:Array Value) (q:UInt8→Bool) (OK:World→Prop) (g:Nat) (p:ByteArray) (s:List UInt8) (hS:Suf p s) (w:World) (hr:RdAt w g p (pos p s)) (hOK:OK w) (HQ:AskIn F caps q g OK) (hp:p.size≤4000) :
  Calls Tryz.prog 170 #[.pointer (some ⟨g,0,none⟩),.func (Fn.func F) #[] caps] w fun e w'=>e = .returned (.string (lba (s.takeWhile q)))∧Moves w g (pos p (s.dropWhile q)) w':=by
 have e:=tw_dw q s
 refine pass_any F caps q OK g p (pos p s) (pos p (s.dropWhile q)) (lba (s.takeWhile q)) w hr hOK HQ hp ?_ (ext_of hS e) (pos_le _ _)
 rw [hS.drop]
 exact pos_plus hS e
structure LTabs (w:World):Prop where
 mx:∃ m:Int,w.cell? ⟨0,0,none⟩ = some (.int .i64 m)
 cv:Lib.CaseVar 3 Lib.caseA w
 u8:Lib.Utf8Tabs 1 2 w
def LEnv (w0:World):Prop:=∀ W,Below w0.heap.size w0 W→LTabs W
theorem behind_pos {p E:ByteArray} {s:List UInt8} (hS:Suf p s) (hi:¬ Lib.index s E.data.toList < 0):((pos p s:Nat):Int) + (Lib.index s E.data.toList + (E.size:Int)) = (pos p (behindL E.data.toList s):Nat):=by
 have h1:=Lib.index_room s E.data.toList (by omega)
 have h2:=hS.len
 have h3:behindL E.data.toList s = s.drop ((Lib.index s E.data.toList).toNat + E.data.toList.length):=by unfold behindL;rw [if_neg hi]
 unfold pos
 rw [h3,List.length_drop,Lib.size_eq E]
 omega
set_option maxHeartbeats 2000000 in
theorem passEnd_any (w0:World) (HE:LEnv w0) (E:ByteArray) (hE:E.size≤10) (g:Nat) (p:ByteArray) (s:List UInt8) (hS:Suf p s) (w:World) (hr:RdAt w g p (pos p s)) (hb:Below w0.heap.size w0 w) (hp:p.size≤4000) :
  Calls Tryz.prog 130 #[.pointer (some ⟨g,0,none⟩),.string E] w fun e w'=>e = .returned (.tuple #[])∧Moves w g (pos p (behindL E.data.toList s)) w':=by
 have h0:=hr.page
 have h1:=hr.at_
 have hf:=hr.frozen 1
 have hx:=ext_end hS
 have HR:Hid (RdAt w g p (pos p s)):=hr
 have hlen:=hS.len
 have HC:Hid (QuietAt 86 #[.string (lba s),.string E] (.int .i64 (Lib.index s E.data.toList)) w):=fun n=>by
  obtain ⟨m,hm⟩:=(HE w hb).mx
  exact Calls.quiet_of_same (Tryz.strings_Index (lba s) E m (w.drewN n) (by rw [lba_size];omega) hm)
 have hk1:((pos p s:Nat):Int)≤(p.size:Int):=by have:=pos_le p s;omega
 have hk2:pos p s≤p.size:=pos_le p s
 have hroom:=Lib.index_room s E.data.toList
 by_cases hi:Lib.index s E.data.toList < 0
 ·have hn:behindL E.data.toList s = []:=by unfold behindL;rw [if_pos hi]
  have HP:Hid (pos p (behindL E.data.toList s) = p.size):=by unfold Hid;rw [hn];rfl
  have hi':¬ 0≤Lib.index s E.data.toList:=by omega
  generalize Lib.index s E.data.toList = i at HC hi hi'
  generalize pos p (behindL E.data.toList s) = m at HP
  generalize pos p s = k at *
  clear hn hr hi hroom hS HE hb
  go_enter Tryz.func130,Tryz.ntmps130
  go_wp2_with fail
  go_quiet (first | (go_at_call 86;exact HC.out _) | fail)
  go_wp2_with fail
  go_end0
  rw [HP.out]
  exact ⟨rfl,((Moves.still HR.out).then (below_many (Below.refl _ _) _)).trans Moves.of_set HR.out⟩
 ·have HP:Hid (((pos p s:Nat):Int) + (Lib.index s E.data.toList + (E.size:Int)) = (pos p (behindL E.data.toList s):Nat)):=behind_pos hS hi
  have hi':0≤Lib.index s E.data.toList:=by omega
  have hroom':=hroom hi'
  have hw1:IntKind.i64.wrap (Lib.index s E.data.toList + (E.size:Int)) = Lib.index s E.data.toList + (E.size:Int):=by rw [IntKind.wrap_i64];omega
  have hw2:IntKind.i64.wrap (((pos p s:Nat):Int) + (Lib.index s E.data.toList + (E.size:Int))) = (pos p (behindL E.data.toList s):Nat):=by rw [HP.out,IntKind.wrap_i64];have:=pos_le p (behindL E.data.toList s);omega
  generalize pos p (behindL E.data.toList s) = m at *
  generalize Lib.index s E.data.toList = i at *
  generalize pos p s = k at *
  clear hr hi hS HE hb hroom HP hroom'
  go_enter Tryz.func130,Tryz.ntmps130
  go_wp2_with fail
  go_quiet (first | (go_at_call 86;exact HC.out _) | fail)
  go_wp2_with fail
  refine bodyPost_ret (results_none rfl _ _ _) rfl ?_
  ·exact ⟨rfl,((Moves.still HR.out).then (below_many (Below.refl _ _) _)).trans Moves.of_set HR.out⟩
def lkC (p:ByteArray) (s r raw:List UInt8):Array Value:=#[.int .i64 (pos p s:Nat),.int .i64 (pos p r:Nat),.string (lba (unamp raw))]
theorem amp_room (s:ByteArray) (hs:s.size≤4000):s.size + Lib.countB s (lba ampL) * (lba [38]).size≤140737488355328:=by
 have h1:Lib.countB s (lba ampL)≤s.size + 1:=by
  unfold Lib.countB
  have:=Lib.count_le s.data.toList (lba ampL).data.toList
  have:=Lib.size_eq s
  omega
 have h2:(lba [38]).size = 1:=rfl
 rw [h2]
 omega
theorem results_cell1 {fn:Func} {p:Tmp} {ty:TypeId} (h:fn.results = #[.cell p ty]) (tmps:Array Value) (P:Program) (w:World) :
  (results fn tmps).run P w =
   ((asAddr (tmps.getD p undef)).run P w).andThen fun a w₁=>(loadVar ty a).run P w₁:=by
 simp only [results,h]
 simp [Sem.run_bind,Result.andThen]
theorem results_tct {fn:Func} {u p v:Tmp} {ty:TypeId} (h:fn.results = #[.tmp u,.cell p ty,.tmp v]) (tmps:Array Value) (P:Program) (w:World) :
  (results fn tmps).run P w =
   ((asAddr (tmps.getD p undef)).run P w).andThen fun a w₁=>((loadVar ty a).run P w₁).andThen fun y w₂=>.ok (.tuple #[tmps.getD u undef,y,tmps.getD v undef]) w₂:=by
 simp only [results,h]
 simp [Sem.run_bind,Result.andThen]
theorem lcells3 {W:World} {k:Nat} {t:TypeId} {v0 v1 v2:Value} (h:W.heap[k]? = some (.cells #[v0,v1,v2] t)) :
  W.cell? ⟨k,0,none⟩ = some v0∧W.cell? ⟨k,1,none⟩ = some v1∧W.cell? ⟨k,2,none⟩ = some v2∧∀ o,W.frozen? ⟨k,o,none⟩ = false :=
 ⟨by simp [World.cell?,h],by simp [World.cell?,h],by simp [World.cell?,h],fun o=>by simp [World.frozen?,h]⟩
theorem lnew (W:World) (o:Obj):(W.alloc o).heap[W.heap.size]? = some o:=by
 show (W.heap.push _)[W.heap.size]? = _
 rw [Array.getElem?_push,if_pos rfl]
theorem lkept {W W':World} {k:Nat} {o:Obj} (h:W.heap[k]? = some o) (hb:Below W.heap.size W W'):W'.heap[k]? = some o:=by
 rw [hb.block _ (Array.getElem?_eq_some_iff.1 h).1];exact h
theorem lltn {W:World} {k:Nat} {o:Obj} (h:W.heap[k]? = some o):k < W.heap.size:=(Array.getElem?_eq_some_iff.1 h).1
theorem Moves.kept {w w':World} {g:Nat} {m:Int} (h:Moves w g m w') {k:Nat} {o:Obj} (hk:w.heap[k]? = some o) (hg:k ≠ g):w'.heap[k]? = some o:=by
 rw [h.block k (lltn hk) hg];exact hk
theorem Moves.new {w w':World} {g:Nat} {m:Int} (h:Moves w g m w') (k i:Nat) (hk:w.heap.size≤k) (v:Value):Moves w g m (w'.setCell ⟨k,i,none⟩ v):=by
 have h1:Below w.heap.size (w.setCell ⟨g,1,none⟩ (.int .i64 m)) w':=h
 exact h1.setCell (p:=⟨k,i,none⟩) hk v
theorem Moves.alloc {w w':World} {g:Nat} {m:Int} (h:Moves w g m w') (o:Obj):Moves w g m (w'.alloc o):=h.then ((Below.refl _ _).alloc (Nat.le_refl _) _)
theorem Moves.drewN {w w':World} {g:Nat} {m:Int} (h:Moves w g m w') (n:Nat):Moves w g m (w'.drewN n):=h.then (below_many (Below.refl _ _) _)
set_option maxHeartbeats 4000000 in
theorem link_any (w0:World) (HE:LEnv w0) (F:Nat) (caps:Array Value) (q:UInt8→Bool) (OK:World→Prop) (hOKa:∀ W v t,OK W→OK (W.alloc (.cells v t))) (g:Nat) (hg:w0.heap.size≤g) (p:ByteArray) (s:List UInt8) (hS:Suf p s) (w:World) (hr:RdAt w g p (pos p s)) (hb:Below w0.heap.size w0 w) (hOK:OK w) (HQ:AskIn F caps q g OK) (hp:p.size≤4000) :
  Calls Tryz.prog 211 #[.pointer (some ⟨g,0,none⟩),.func (Fn.func F) #[] caps] w fun e w'=>e = .returned (.agg (lkC p s (s.dropWhile q) (s.takeWhile q)))∧Moves w g (pos p (s.dropWhile q)) w':=by
 have h1:=hr.at_
 have HR:Hid (RdAt w g p (pos p s)):=hr
 have hlt:=hr.lt
 have hne:g ≠ w.heap.size:=by omega
 have HP:Hid (∀ W,RdAt W g p (pos p s)→OK W→Calls Tryz.prog 170 #[.pointer (some ⟨g,0,none⟩),.func (Fn.func F) #[] caps] W fun e w'=>e = .returned (.string (lba (s.takeWhile q)))∧Moves W g (pos p (s.dropWhile q)) w'):=fun W h1 h2=>pass_suf F caps q OK g p s hS W h1 h2 HQ hp
 have htl:(lba (s.takeWhile q)).size≤4000:=by rw [lba_size];have:=(List.takeWhile_prefix (l:=s) q).length_le;have:=hS.len;omega
 have HA:Hid (∀ W,Below w0.heap.size w0 W→Calls Tryz.prog 216 #[.string (lba (s.takeWhile q)),.string ⟨#[38,97,109,112,59]⟩,.string ⟨#[38]⟩] W fun e w'=>e = .returned (.string (lba (unamp (s.takeWhile q))))∧Below W.heap.size W w'):=fun W hW=>by
  obtain ⟨m,hm⟩:=(HE W hW).mx
  exact Tryz.strings_ReplaceAll (lba (s.takeWhile q)) ⟨#[38,97,109,112,59]⟩ ⟨#[38]⟩ m W (by omega) hm (by decide) (amp_room _ htl)
 have HB:Hid (Below w0.heap.size w0 w):=hb
 have HO:Hid (OK (w.alloc (.cells #[.int .i64 0,.int .i64 0,.string ⟨#[]⟩] 40))):=hOKa _ _ _ hOK
 unfold lkC
 generalize s.takeWhile q = T at *
 generalize pos p (s.dropWhile q) = m at *
 generalize pos p s = k at *
 clear hr HE hb hOK hOKa HQ hS htl
 have hba:Below w.heap.size w (w.alloc (.cells #[.int .i64 0,.int .i64 0,.string ⟨#[]⟩] 40)):=(Below.refl _ _).alloc (Nat.le_refl _) _
 have hnew:=lnew w (.cells #[.int .i64 0,.int .i64 0,.string ⟨#[]⟩] 40)
 go_enter Tryz.func211,Tryz.ntmps211
 go_wp2_with fail
 refine (HP.out _ (HR.out.below hba) HO.out).mono ?_
 rintro e w1 ⟨rfl,hm1⟩
 have hB1:=hm1.base (HB.out.trans (hba.mono HB.out.size)) hg
 have hk1:=hm1.kept hnew (Ne.symm hne)
 have HM:Hid (Moves w g m w1):=((Moves.still HR.out).then hba).trans hm1 HR.out
 clear HP HO hnew hm1 hba h1
 go_wp2_with fail
 refine (HA.out _ hB1).mono ?_
 rintro e w2 ⟨rfl,hb2⟩
 have hr2:=(HM.out.then hb2).rd HR.out
 have hk2:=lkept hk1 hb2
 have h1:=hr2.at_
 obtain ⟨c0,c1,c2,cf⟩:=lcells3 hk2
 have HM2:Hid (Moves w g m w2):=HM.out.then hb2
 have hsz:w.heap.size < w2.heap.size:=lltn hk2
 clear HM HA hb2 hr2 hk1 hk2 hB1
 go_wp2_with fail
 refine bodyPost_ret (v:=.agg #[.int .i64 k,.int .i64 m,.string (lba (unamp T))]) ?_ rfl ⟨rfl,?_⟩
 ·rw [results_cell1 rfl]
  go_simp
 ·exact ((HM2.out.new _ _ (Nat.le_refl _) _).new _ _ (Nat.le_refl _) _).new _ _ (Nat.le_refl _) _
end Go.Proofs.YtbbfcbodhmeanaaGreatDoor


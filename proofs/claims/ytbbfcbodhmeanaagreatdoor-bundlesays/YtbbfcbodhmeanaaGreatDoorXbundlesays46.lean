
import Derived.Test.YtbbfcbodhmeanaaGreatDoorXbundlesays44
import Derived.Test.YtbbfcbodhmeanaaGreatDoorXbundlesays45
namespace Go.Proofs.YtbbfcbodhmeanaaGreatDoor
open Go.RowKit
theorem badF_all:∀ (l:List PT),badF l = 0→∀ x ∈ l,chkA x = 0
 | [],_,x,hx=>by simp at hx
 | y::l,h,x,hx=>by
  rw [badF] at h
  split at h
  ·rename_i hy
   rcases List.mem_cons.1 hx with rfl | hx
   ·exact hy
   ·exact badF_all l h x hx
  ·rename_i hy
   exact absurd h hy
theorem chk_all (p:PT) (h:(placesP p).1 = 0):∀ x ∈ flatP 4 p,chkA x = 0:=by
 refine badF_all _ ?_
 have hs:=places_spec p
 unfold placesP at h
 by_cases hl:lev 3 p = true∧(tree 4 p).length≤12
 ·rw [if_pos hl] at hs
  rw [hs] at h
  simp only at h
  by_cases hb:firstBad ((tree 4 p).map (abs 0 (-1))) = 0
  ·rw [← badF_map,List.map_map] at hb
   rw [← tree_flat]
   exact hb
  ·rw [if_neg hb] at h
   exact absurd h hb
 ·rw [if_neg hl] at hs
  rw [hs] at h
  cases h
theorem chk_short {x:PT} (h:chkA x = 0):x.id.size≤120∧x.body.length≤4000:=by
 unfold chkA at h
 split at h
 ·cases h
 ·rename_i ht
  split at h
  ·cases h
  ·split at h
   ·cases h
   ·rename_i hb
    refine ⟨?_,by omega⟩
    have ht':textsOk x = true:=by cases hx:textsOk x <;> simp_all
    unfold textsOk at ht'
    simp only [Bool.and_eq_true] at ht'
    have hw:=ht'.1.2
    unfold wordS at hw
    simp only [Bool.and_eq_true,decide_eq_true_eq] at hw
    rw [Lib.size_eq]
    exact hw.1
def FlatIn (V:World) (ab ao:Nat) (L:List PT):Prop:=∀ i,i < L.length→(∃ pb cb pk ck,PCells V ab (ao + i * 7) (L.getD i pt0) pb cb pk ck∧BRow V pb (L.getD i pt0).body∧(pb = none→(L.getD i pt0).body.length = 0∧cb = 0))∧(L.getD i pt0).ty.size≤maxLen
def TelIn (V:World) (wb wo:Nat) (wh:List (List UInt8)):Prop:=∀ i,i < wh.length→V.cell? ⟨wb,wo + i,none⟩ = some (.string (tx8 (wh.getD i [])))
theorem flat_in {V:World} {F:Nat} {ab ao:Nat} {L:List PT} (h:KAt V (F + 1) (some ⟨ab,ao,none⟩) L):FlatIn V ab ao L:=by
 intro i hi
 obtain ⟨b,o,e,hc⟩:=h (fun e=>by rw [e] at hi;simp at hi)
 cases e
 obtain ⟨pb,cb,pk,ck,h1,h2⟩:=hc i hi
 refine ⟨⟨pb,cb,pk,ck,h1,h2.2.2.1,fun e=>?_⟩,h2.1.1⟩
 have h3:=h2.2.1.2.2 e
 have h4:=h2.2.1.1
 exact ⟨by omega,h3⟩
theorem TelIn.below {w w':World} {wb wo:Nat} {wh:List (List UInt8)} (h:TelIn w wb wo wh) (hb:Below w.heap.size w w'):TelIn w' wb wo wh:=fun i hi=>(hb.cell (p:=⟨wb,wo + i,none⟩) (World.block_lt_of_cell? w _ (h i hi))).trans (h i hi)
theorem owned_tel {w:World} {B:Nat} {v:Value} {l:List (List UInt8)} (hne:l ≠ []) (h:w.ownsRow B 9 1 v l.length (wtv l)):∃ g c,v = .slice (some ⟨g,0,none⟩) l.length c∧TelIn w g 0 l:=by
 have hcl:=fun g hg=>h.cells (g:=g) hg
 rcases h.2 with ⟨rfl,h0⟩ | ⟨g,cap,cur,rfl,_,_,hn,hm,_,_⟩
 ·exact absurd (List.length_eq_zero_iff.1 h0) hne
 ·refine ⟨g,cap,rfl,fun i hi=>?_⟩
  have k0:=hcl g rfl i (.string (tx8 (l.getD i []))) (by
   unfold wtv
   rw [List.getElem?_map,List.getD_eq_getElem?_getD,List.getElem?_eq_getElem hi]
   rfl)
  rw [Addr.add_lit] at k0
  exact k0
def RGoalsPost (w:World) (r:Option (List GL)) (e:Ending) (w':World):Prop :=
 Below w.heap.size w w'∧match r with
  | none=>e = .returned (.tuple #[.slice none 0 0,.int .i64 2])
  | some l=>∃ v,e = .returned (.tuple #[v,.int .i64 0])∧w'.ownsRow w.heap.size 42 6 v l.length (glv l)
theorem go_in {w0 V:World} (hE:LEnv w0) (hb:Below w0.heap.size w0 V) {ab ao wb wo:Nat} {L:List PT} {wh:List (List UInt8)} (hf:∀ W,Below V.heap.size V W→FlatIn W ab ao L) (ht:∀ W,Below V.heap.size V W→TelIn W wb wo wh) (hl:wh.length = L.length) (hc:∀ x ∈ L,chkA x = 0) (h120:∀ i,(wh.getD i []).length≤120) (hL:L.length≤12):GoIn V V.heap.size ab ao wb wo L wh :=
 ⟨fun W hW i hi=>by obtain ⟨⟨pb,cb,pk,ck,h1,_⟩,_⟩:=hf W hW i hi;exact ⟨pb,cb,pk,ck,h1⟩,fun W hW i hi=>ht W hW i (by rw [hl];exact hi),fun W hW=>hE.max (hb.trans (hW.mono hb.size)),fun i hi=>⟨(hf V (Below.refl _ _) i hi).2,by
  have:=(chk_short (hc (L.getD i pt0) (by rw [List.getD_eq_getElem?_getD,List.getElem?_eq_getElem hi];exact List.getElem_mem hi))).1
  omega⟩,h120,by omega⟩
set_option maxRecDepth 1000000 in
set_option maxHeartbeats 8000000 in
theorem rgoals_any (w0:World) (hE:LEnv w0) (F:Nat) (p:PT) (pb:Option Addr) (cb:Nat) (pk:Option Addr) (ck:Nat) (w:World) (hb:Below w0.heap.size w0 w) (hH:PHeld w F p pb cb pk ck) (hok:(placesP p).1 = 0) :
  Calls Tryz.prog 14 #[.agg #[.string p.ty,.string p.cs,.string p.id,.string p.loc,.int .i64 p.how,.slice pb p.body.length cb,.slice pk p.kids.length ck]] w fun e w'=>RGoalsPost w (goalsGo smallU (flatP 4 p) (whereR 4 p []) 0 (flatP 4 p) []) e w':=by
 obtain ⟨hlev,h12,hfl⟩:=places_flat p hok
 have hall:=chk_all p hok
 have hwl:(whereR 4 p []).length = (flatP 4 p).length:=by rw [← where_places p hok,whereP_length,← hfl,List.length_map]
 have hw120:∀ i,((whereR 4 p []).getD i []).length≤120:=by
  intro i
  rw [← where_places p hok,List.getD_eq_getElem?_getD]
  cases hx:(whereP (placesP p).2)[i]? with
  | none=>simp
  | some y=>simpa using whereP_each _ y (List.mem_of_getElem? hx)
 have hne:flatP 4 p ≠ []:=by rw [flatP_succ];simp
 obtain ⟨W1,hW1⟩:∃ W,W = w.alloc (.cells #[.string p.ty,.string p.cs,.string p.id,.string p.loc,.int .i64 p.how,.slice pb p.body.length cb,.slice pk p.kids.length ck] 25):=⟨_,rfl⟩
 have hb1:Below w.heap.size w W1:=by rw [hW1];exact (Below.refl _ _).alloc (Nat.le_refl _) _
 have kW:W1.heap[w.heap.size]? = some (.cells #[.string p.ty,.string p.cs,.string p.id,.string p.loc,.int .i64 p.how,.slice pb p.body.length cb,.slice pk p.kids.length ck] 25):=by rw [hW1];exact blk_new _ _
 have hlow:∀ W,Below W1.heap.size W1 W→Below w0.heap.size w0 W:=fun W hW=>hb.trans ((hb1.trans (hW.mono hb1.size)).mono hb.size)
 have hHW:∀ W,Below W1.heap.size W1 W→PHeld W F p pb cb pk ck:=fun W hW=>hH.below (hb1.trans (hW.mono hb1.size))
 obtain ⟨n,hn⟩:∃ n,n = (flatP 4 p).length:=⟨_,rfl⟩
 have CF:Hid (∀ W,Below W1.heap.size W1 W→Calls Tryz.prog 44 #[.agg #[.string p.ty,.string p.cs,.string p.id,.string p.loc,.int .i64 p.how,.slice pb p.body.length cb,.slice pk p.kids.length ck]] W fun e w'=>∃ ab ao ca,e = .returned (.slice (some ⟨ab,ao,none⟩) n ca)∧Below W1.heap.size W1 w'∧Below W.heap.size W w'∧Hid (∀ V,Below w'.heap.size w' V→FlatIn V ab ao (flatP 4 p))):=fun W hW=>by
  refine (flat_any 4 F p pb cb pk ck W hlev (by omega) (hHW W hW)).mono ?_
  rintro e w' ⟨q,c,rfl,hbw,_,_,_,hK,_⟩
  obtain ⟨ab,ao,rfl,_⟩:=hK hne
  exact ⟨ab,ao,c,by rw [hn],hW.trans (hbw.mono hW.size),hbw,fun V hV=>flat_in (KAt.below hV _ _ _ hK)⟩
 have CW:Hid (∀ W,Below W1.heap.size W1 W→Calls Tryz.prog 16 #[.agg #[.string p.ty,.string p.cs,.string p.id,.string p.loc,.int .i64 p.how,.slice pb p.body.length cb,.slice pk p.kids.length ck]] W fun e w'=>∃ wb wo cw,e = .returned (.slice (some ⟨wb,wo,none⟩) n cw)∧Below W1.heap.size W1 w'∧Below W.heap.size W w'∧Hid (∀ V,Below w'.heap.size w' V→TelIn V wb wo (whereR 4 p []))):=fun W hW=>by
  refine (rwhere_any 4 F p pb cb pk ck W (fun V hV=>hE.max (hlow V (hW.trans (hV.mono hW.size)))) hlev (by omega) (hHW W hW)).mono ?_
  rintro e w' ⟨v,rfl,hbw,hown⟩
  obtain ⟨g,c,rfl,ht⟩:=owned_tel (fun e=>by rw [e] at hwl;exact hne (List.length_eq_zero_iff.1 hwl.symm)) hown
  exact ⟨g,0,c,by rw [hn,hwl],hW.trans (hbw.mono hW.size),hbw,fun V hV=>ht.below hV⟩
 have HGO:Hid (∀ (V:World) (ab ao wb wo:Nat),Below W1.heap.size W1 V→(∀ W,Below V.heap.size V W→FlatIn W ab ao (flatP 4 p))→(∀ W,Below V.heap.size V W→TelIn W wb wo (whereR 4 p []))→GoIn V V.heap.size ab ao wb wo (flatP 4 p) (whereR 4 p [])):=fun V ab ao wb wo hV hf ht=>go_in hE (hlow V hV) hf ht hwl hall hw120 h12
 have H4:Hid (∀ i,i < (flatP 4 p).length→((flatP 4 p).getD i pt0).body.length≤4000):=fun i hi=>(chk_short (hall _ (by rw [List.getD_eq_getElem?_getD,List.getElem?_eq_getElem hi];exact List.getElem_mem hi))).2
 have HPOST:Hid (∀ (e:Ending) (w':World) (r:Option (List GL)),Below W1.heap.size W1 w'→RGoalsPost W1 r e w'→RGoalsPost w r e w'):=fun e w' r hbw hp=>⟨hb1.trans (hbw.mono hb1.size),by
  cases r with
  | none=>exact hp.2
  | some l =>
   obtain ⟨v,he,ho⟩:=hp.2
   exact ⟨v,he,owns_weaken ho hb1.size⟩⟩
 have HLOW:Hid (∀ W,Below W1.heap.size W1 W→Below w0.heap.size w0 W):=hlow
 have HE:Hid (LEnv w0):=hE
 have HN:Hid (n = (flatP 4 p).length):=hn
 have e0:∀ W,Below W1.heap.size W1 W→W.cell? ⟨w.heap.size,0,none⟩ = some (.string p.ty):=fun W h=>(blk_c (blk_on kW h) 0).trans rfl
 have e1:∀ W,Below W1.heap.size W1 W→W.cell? ⟨w.heap.size,1,none⟩ = some (.string p.cs):=fun W h=>(blk_c (blk_on kW h) 1).trans rfl
 have e2:∀ W,Below W1.heap.size W1 W→W.cell? ⟨w.heap.size,2,none⟩ = some (.string p.id):=fun W h=>(blk_c (blk_on kW h) 2).trans rfl
 have e3:∀ W,Below W1.heap.size W1 W→W.cell? ⟨w.heap.size,3,none⟩ = some (.string p.loc):=fun W h=>(blk_c (blk_on kW h) 3).trans rfl
 have e4:∀ W,Below W1.heap.size W1 W→W.cell? ⟨w.heap.size,4,none⟩ = some (.int .i64 p.how):=fun W h=>(blk_c (blk_on kW h) 4).trans rfl
 have e5:∀ W,Below W1.heap.size W1 W→W.cell? ⟨w.heap.size,5,none⟩ = some (.slice pb p.body.length cb):=fun W h=>(blk_c (blk_on kW h) 5).trans rfl
 have e6:∀ W,Below W1.heap.size W1 W→W.cell? ⟨w.heap.size,6,none⟩ = some (.slice pk p.kids.length ck):=fun W h=>(blk_c (blk_on kW h) 6).trans rfl
 have hb0:Below W1.heap.size W1 W1.drew:=(Below.refl _ _).drew
 have HW1:Hid (W1 = w.alloc (.cells #[.string p.ty,.string p.cs,.string p.id,.string p.loc,.int .i64 p.how,.slice pb p.body.length cb,.slice pk p.kids.length ck] 25)):=hW1
 clear hW1 hb1 kW hlow hHW hwl hall hw120 hne hlev h12 hfl hok hE hb hH hn
 obtain ⟨L,hL⟩:∃ L,flatP 4 p = L:=⟨_,rfl⟩
 obtain ⟨wh,hwh⟩:∃ l,whereR 4 p [] = l:=⟨_,rfl⟩
 rw [hL] at CF HGO H4 HN
 rw [hwh] at CW HGO
 rw [hL,hwh]
 obtain ⟨RES,hRES⟩:∃ r,goalsGo smallU L wh 0 L [] = r:=⟨_,rfl⟩
 have HRES:Hid (goalsGo smallU L wh 0 L [] = RES):=hRES
 rw [hRES]
 clear hL hwh hRES
 generalize p.body.length = nb at *
 generalize p.kids.length = nk at *
 go_enter Tryz.func14,Tryz.ntmps14
 go_upto_region 1 with fail
 rw [← HW1.out]
 go_region_held3 (fun W=>Below W1.heap.size W1 W) (first | assumption | exact hb0) (first
  | (go_at_call 44;refine (CF.out _ ?_).mono ?_;(first | assumption | exact hb0);rintro e w2 ⟨ab,ao,ca,rfl,hb2,hr2,HF2⟩)
  | (go_at_call 16;refine (CW.out _ ?_).mono ?_;(first | assumption | exact hb0);rintro e w3 ⟨wb,wo,cw,rfl,hb3,hr3,HT3⟩))
 ·have HBV:Hid (Below W1.heap.size W1 w3):=hb3
  have HFI:Hid (∀ W,Below w3.heap.size w3 W→FlatIn W ab ao L):=fun W hW=>HF2.out W (hr3.trans (hW.mono hr3.size))
  have HTI:Hid (∀ W,Below w3.heap.size w3 W→TelIn W wb wo wh):=HT3.out
  clear hb2 hr2 HF2 hb3 hr3 HT3 e0 e1 e2 e3 e4 e5 e6 CF CW hb0
  try clear hHeld
  go_wp2_with fail
  refine lg1 w0 HE.out ab ao wb wo n ca cw L wh HN.out w3 (HLOW.out _ HBV.out) (HGO.out _ _ _ _ _ HBV.out HFI.out HTI.out) (fun W hW i hi=>(HFI.out W hW i hi).1) H4.out RES HRES.out _ _ _ _ _ _ _ _ _ _ _ _ _ _ _ _ _ _ _ _ _ _ _ _ _ _ _ _ _ _ _ _ _ _ _ _ _ _ _ _ _ _ _ _ _ _ _ _ _ _ _ _ _ _ _ _ _ _ _ _ _ _ _ _ _ _ _ _ _ _ _ _ _ _ _ _ _ _ _ _ _ _ _ _ _ _ _ _ _ _ _ _ _ _ _ _ _ _ _ _ _ _ _ _ _ _ _ _ _ _ _ _ _ _ _ _ _ _ _ _ _ _ _ _ _ ?_ ?_
  ·intro q2 q3 q8 q9 q10 q11 q12 q14 q15 q16 q17 q18 q25 q26 q27 q28 q29 q30 q31 q32 q33 q34 q35 q36 q37 q38 q39 q40 q41 q42 q43 q44 q45 q46 q47 q48 q49 q50 q51 q52 q53 q54 q55 q56 q57 q58 q59 q60 q61 q62 q63 q64 q65 q66 q67 q68 q69 q70 q71 q72 q73 q74 q75 q76 q77 q78 q79 q80 q81 q82 q83 q84 q85 q86 q87 q88 q89 q90 q91 q92 q93 q94 q95 q96 q97 q98 q99 q100 q101 q102 q103 q104 q105 q106 q107 q108 q109 q110 q111 q112 q113 q114 q115 q116 q117 q118 q119 q120 q121 q122 q123 q124 q125 q126 q127 q128 q129 qy ny cy w9 acc hres hb9 hn9 _ hO9
   have HP:Hid (RGoalsPost w RES (.returned (.tuple #[.slice qy ny cy,.int .i64 0])) w9):=by
    refine HPOST.out _ _ _ (HBV.out.trans (hb9.mono HBV.out.size)) ⟨HBV.out.trans (hb9.mono HBV.out.size),?_⟩
    rw [hres]
    refine ⟨_,rfl,?_⟩
    rw [← hn9]
    exact owns_weaken hO9 HBV.out.size
   clear hres hb9 hn9 hO9
   go_wp2_with fail
   go_ret2
   exact HP.out
  ·intro q7 q8 q9 q10 q11 q12 q14 q15 q16 q17 q18 q25 q26 q27 q28 q29 q30 q31 q32 q33 q34 q35 q36 q37 q38 q39 q40 q41 q42 q43 q44 q45 q46 q47 q48 q49 q50 q51 q52 q53 q54 q55 q56 q57 q58 q59 q60 q61 q62 q63 q64 q65 q66 q67 q68 q69 q70 q71 q72 q73 q74 q75 q76 q77 q78 q79 q80 q81 q82 q83 q84 q85 q86 q87 q88 q89 q90 q91 q92 q93 q94 q95 q96 q97 q98 q99 q100 q101 q102 q103 q104 q105 q106 q107 q108 q109 q110 q111 q112 q113 q114 q115 q116 q117 q118 q119 q120 q121 q122 q123 q124 q125 q126 q127 q128 q129 w9 hres hb9
   have HP:Hid (RGoalsPost w RES (.returned (.tuple #[.slice none 0 0,.int .i64 2])) w9):=by
    refine HPOST.out _ _ _ (HBV.out.trans (hb9.mono HBV.out.size)) ⟨HBV.out.trans (hb9.mono HBV.out.size),?_⟩
    rw [hres]
   clear hres hb9
   go_wp2_with fail
   go_ret2
   exact HP.out
end Go.Proofs.YtbbfcbodhmeanaaGreatDoor



namespace Go.Proofs.YtbbfcbodhmeanaaGreatDoor
open Go.RowKit
def gl0:GL:=⟨0,0,0,[],[],0⟩
def G6 (w:World) (p:Option Addr) (n:Nat) (l:List GL):Prop:=l.length = n∧(n ≠ 0→∃ b o,p = some ⟨b,o,none⟩∧∀ i,i < n→w.cell? ⟨b,o + i * 6,none⟩ = some (.int .i64 (l.getD i gl0).part)∧w.cell? ⟨b,o + i * 6 + 1,none⟩ = some (.int .i64 (l.getD i gl0).fr)∧w.cell? ⟨b,o + i * 6 + 2,none⟩ = some (.int .i64 (l.getD i gl0).tt)∧w.cell? ⟨b,o + i * 6 + 3,none⟩ = some (.string (tx8 (l.getD i gl0).text))∧w.cell? ⟨b,o + i * 6 + 4,none⟩ = some (.string (tx8 (l.getD i gl0).led))∧w.cell? ⟨b,o + i * 6 + 5,none⟩ = some (.int .i64 (l.getD i gl0).find))
theorem G6.below {w w':World} {p:Option Addr} {n:Nat} {l:List GL} (h:G6 w p n l) (hb:Below w.heap.size w w'):G6 w' p n l:=by
 refine ⟨h.1,fun hn=>?_⟩
 obtain ⟨b,o,e,hc⟩:=h.2 hn
 refine ⟨b,o,e,fun i hi=>?_⟩
 obtain ⟨c0,c1,c2,c3,c4,c5⟩:=hc i hi
 have hl:=World.block_lt_of_cell? w _ c0
 have k:∀ j v,w.cell? ⟨b,j,none⟩ = some v→w'.cell? ⟨b,j,none⟩ = some v:=fun j v h=>(hb.cell (p:=⟨b,j,none⟩) hl).trans h
 exact ⟨k _ _ c0,k _ _ c1,k _ _ c2,k _ _ c3,k _ _ c4,k _ _ c5⟩
theorem glv_get:∀ (l:List GL) (i:Nat),i < l.length→∀ j x,(g1v (l.getD i gl0))[j]? = some x→(glv l)[i * 6 + j]? = some x
 | [],i,h,_,_,_=>by simp at h
 | y::l,0,_,j,x,hx=>by
  have e:glv (y::l) = g1v y ++ glv l:=by simp [glv]
  have hx':(g1v y)[j]? = some x:=hx
  rw [e,Nat.zero_mul,Nat.zero_add,List.getElem?_append_left (List.getElem?_eq_some_iff.1 hx').1,hx']
 | y::l,i + 1,h,j,x,hx=>by
  have e:glv (y::l) = g1v y ++ glv l:=by simp [glv]
  have hl:(g1v y).length = 6:=rfl
  rw [e,List.getElem?_append_right (by rw [hl];omega),hl,show (i + 1) * 6 + j - 6 = i * 6 + j from by omega]
  exact glv_get l i (by simpa using h) j x hx
theorem owned_goals {w:World} {B:Nat} {v:Value} {l:List GL} (h:w.ownsRow B 42 6 v l.length (glv l)):∃ p c,v = .slice p l.length c∧l.length≤c∧c≤maxLen∧G6 w p l.length l:=by
 have hcl:=fun g hg=>h.cells (g:=g) hg
 rcases h.2 with ⟨rfl,h0⟩ | ⟨g,cap,cur,rfl,_,_,hn,hm,_,_⟩
 ·exact ⟨none,0,by rw [h0],by omega,by decide,rfl,fun hne=>absurd h0 hne⟩
 ·refine ⟨some ⟨g,0,none⟩,cap,rfl,hn,hm,rfl,fun hne=>⟨g,0,rfl,fun i hi=>?_⟩⟩
  have k:∀ j x,(g1v (l.getD i gl0))[j]? = some x→w.cell? ⟨g,0 + i * 6 + j,none⟩ = some x:=fun j x hx=>by
   have k0:=hcl g rfl (i * 6 + j) _ (glv_get l i hi j x hx)
   rw [Addr.add_lit,Nat.zero_add] at k0
   rw [Nat.zero_add]
   exact k0
  exact ⟨k 0 _ rfl,k 1 _ rfl,k 2 _ rfl,k 3 _ rfl,k 4 _ rfl,k 5 _ rfl⟩
set_option maxHeartbeats 2000000 in
set_option maxRecDepth 100000 in
theorem eqg_same (p1 p2:Option Addr) (n c d:Nat) (xs:List GL) (w:World) (hn:n≤100000) (h1:G6 w p1 n xs) (h2:G6 w p2 n xs) :
  Calls Tryz.prog 17 #[.slice p1 n c,.slice p2 n d] w fun e w'=>e = .returned (.bool true)∧∃ q,w' = w.drewN q:=by
 obtain ⟨hx,r1⟩:=h1
 obtain ⟨_,r2⟩:=h2
 by_cases h0:n = 0
 ·subst h0
  clear r1 r2 hx
  go_enter Tryz.func17,Tryz.ntmps17
  go_wp2
  refine wp_loop_rounds 1 ?_
  rw [rounds_succ]
  go_wp2
  go_ret
  exact ⟨rfl,0,rfl⟩
 ·obtain ⟨b1,o1,rfl,k1⟩:=r1 h0
  obtain ⟨b2,o2,rfl,k2⟩:=r2 h0
  clear r1 r2 hx
  go_enter Tryz.func17,Tryz.ntmps17
  go_wp2
  go_loopg [13] n (fun g s13 wr=>∃ k q:Nat,k≤n∧n - k≤g∧s13 = .int .i64 k∧wr = w.drewN q)
  case atStart=>exact ⟨0,0,Nat.zero_le _,by omega,rfl,rfl⟩
  case round =>
   obtain ⟨k,q,hk,hg,rfl,rfl⟩:=hrel
   by_cases hlt:k < n
   ·obtain ⟨a0,a1,a2,a3,a4,a5⟩:=k1 k hlt
    obtain ⟨e0,e1,e2,e3,e4,e5⟩:=k2 k hlt
    clear k1 k2
    generalize xs.getD k gl0 = x at *
    obtain ⟨x0,x1,x2,x3,x4,x5⟩:=x
    simp only at a0 a1 a2 a3 a4 a5 e0 e1 e2 e3 e4 e5
    generalize tx8 x3 = t3 at *
    generalize tx8 x4 = t4 at *
    go_wp2_with fail
    go_quiet (fail)
    go_wp2
    go_roundg (n - (k + 1))
    case measure=>omega
    case rel=>exact ⟨k + 1,q + nq,by omega,by omega,by go_num,rfl⟩
   ·have:k = n:=by omega
    subst this
    clear k1 k2
    go_wp2
    go_ret
    exact ⟨rfl,q,rfl⟩
end Go.Proofs.YtbbfcbodhmeanaaGreatDoor



namespace Go.Proofs.YtbbfcbodhmeanaaGreatDoor
def hab:List UInt8:=[104,116,116,112,58,47,47,104,47,97,47,98]
def hac:List UInt8:=[104,116,116,112,58,47,47,104,47,97,47,99]
def habd:List UInt8:=[104,116,116,112,58,47,47,104,47,97,47,98,35,100]
theorem small_pl:placesP smallT = (0,[(smallT,-1),(partA,0),(partB,0)]):=by kernel_rfl
theorem small_wh:whereP [(smallT,-1),(partA,0),(partB,0)] = [hab,hab,hac]:=by kernel_rfl
def smallG:List GL:=[⟨1,9,10,[99],hac,2⟩,⟨1,21,26,[99,105,100,58,120],[99,105,100,58,120],2⟩,⟨1,35,37,[35,100],habd,-1⟩]
theorem small_go:goalsGo lowT [smallT.alone,partA.alone,partB.alone] [hab,hab,hac] 0 [smallT.alone,partA.alone,partB.alone] [] = some smallG:=by kernel_rfl
end Go.Proofs.YtbbfcbodhmeanaaGreatDoor



namespace Go.Proofs.YtbbfcbodhmeanaaGreatDoor
open Go.RowKit
def T8 (w:World) (p:Option Addr) (n:Nat) (xs:List (List UInt8)):Prop:=xs.length = n∧(n ≠ 0→∃ b o,p = some ⟨b,o,none⟩∧∀ i,i < n→w.cell? ⟨b,o + i,none⟩ = some (.string (tx8 (xs.getD i []))))
theorem T8.below {w w':World} {p:Option Addr} {n:Nat} {xs:List (List UInt8)} (h:T8 w p n xs) (hb:Below w.heap.size w w'):T8 w' p n xs:=by
 refine ⟨h.1,fun hn=>?_⟩
 obtain ⟨b,o,e,hc⟩:=h.2 hn
 exact ⟨b,o,e,fun i hi=>(hb.cell (p:=⟨b,o + i,none⟩) (World.block_lt_of_cell? w _ (hc i hi))).trans (hc i hi)⟩
theorem texts_same {xs ys:List (List UInt8)} {n:Nat} (hx:xs.length = n) (hy:ys.length = n) (h:∀ j,j < n→xs.getD j [] = ys.getD j []):xs = ys:=by
 apply List.ext_getElem?
 intro i
 by_cases hi:i < n
 ·have:=h i hi
  rw [List.getD_eq_getElem?_getD,List.getD_eq_getElem?_getD,List.getElem?_eq_getElem (by omega),List.getElem?_eq_getElem (by omega)] at this
  rw [List.getElem?_eq_getElem (by omega),List.getElem?_eq_getElem (by omega)]
  simpa using this
 ·rw [List.getElem?_eq_none (by omega),List.getElem?_eq_none (by omega)]
set_option maxHeartbeats 2000000 in
theorem eqs_any (p1 p2:Option Addr) (n m c d:Nat) (xs ys:List (List UInt8)) (w:World) (hn:n≤maxLen) (hm:m≤maxLen) (h1:T8 w p1 n xs) (h2:T8 w p2 m ys) :
  Calls Tryz.prog 15 #[.slice p1 n c,.slice p2 m d] w fun e w'=>e = .returned (.bool (decide (xs = ys)))∧∃ q,w' = w.drewN q:=by
 unfold maxLen at hn hm
 obtain ⟨hx,r1⟩:=h1
 obtain ⟨hy,r2⟩:=h2
 by_cases hnm:n = m
 ·subst hnm
  by_cases h0:n = 0
  ·subst h0
   have exy:xs = ys:=by rw [List.eq_nil_of_length_eq_zero hx,List.eq_nil_of_length_eq_zero hy]
   have hfin:decide (xs = ys) = true:=by simp [exy]
   rw [hfin]
   clear r1 r2 exy hfin hx hy
   go_enter Tryz.func15,Tryz.ntmps15
   go_wp2
   refine wp_loop_rounds 1 ?_
   rw [rounds_succ]
   go_wp2
   go_ret
   exact ⟨rfl,0,rfl⟩
  ·obtain ⟨b1,o1,rfl,k1⟩:=r1 h0
   obtain ⟨b2,o2,rfl,k2⟩:=r2 h0
   clear r1 r2
   go_enter Tryz.func15,Tryz.ntmps15
   go_wp2
   go_loopg [13] n (fun g s13 wr=>∃ k q:Nat,k≤n∧n - k≤g∧s13 = .int .i64 k∧wr = w.drewN q∧∀ j,j < k→xs.getD j [] = ys.getD j [])
   case atStart=>exact ⟨0,0,Nat.zero_le _,by omega,rfl,rfl,fun j hj=>absurd hj (Nat.not_lt_zero _)⟩
   case round =>
    obtain ⟨k,q,hk,hg,rfl,rfl,heq⟩:=hrel
    by_cases hlt:k < n
    ·have g1:w.cell? ⟨b1,o1 + k,none⟩ = some (.string (tx8 (xs.getD k []))):=k1 k hlt
     have g2:w.cell? ⟨b2,o2 + k,none⟩ = some (.string (tx8 (ys.getD k []))):=k2 k hlt
     have A:Hid (∀ j,j < k→xs.getD j [] = ys.getD j []):=heq
     clear heq k1 k2
     generalize hxk:xs.getD k [] = x at g1
     generalize hyk:ys.getD k [] = y at g2
     have B:Hid (xs.getD k [] = x∧ys.getD k [] = y):=⟨hxk,hyk⟩
     clear hxk hyk
     by_cases hxy:x = y
     ·subst hxy
      go_wp2_with fail
      go_quiet (fail)
      go_wp2
      go_roundg (n - (k + 1))
      case measure=>omega
      case rel =>
       refine ⟨k + 1,q + nq,by omega,by omega,by go_num,rfl,fun j hj=>?_⟩
       by_cases e:j = k
       ·subst e
        rw [B.out.1,B.out.2]
       ·exact A.out j (by omega)
     ·have hxb:((tx8 x).toList == (tx8 y).toList) = false:=by rw [list_eq,tx8_data,tx8_data,beq_eq_false_iff_ne];exact hxy
      go_wp2_with fail
      go_quiet (fail)
      go_wp2
      go_ret
      refine ⟨ret_bool ?_,q + nq,World.drewN_drewN _ _ _⟩
      symm
      rw [decide_eq_false_iff_not]
      intro e
      apply hxy
      rw [← B.out.1,← B.out.2,e]
    ·have:k = n:=by omega
     subst this
     have hfin:Hid (decide (xs = ys) = true):=by simp [Hid,texts_same hx hy heq]
     clear k1 k2 heq
     go_wp2
     go_ret
     exact ⟨ret_bool hfin.out.symm,q,rfl⟩
 ·have hnm':¬ (n:Int) = (m:Int):=by omega
  have hfin:decide (xs = ys) = false:=by
   rw [decide_eq_false_iff_not]
   intro e
   apply hnm
   rw [← hx,← hy,e]
  rw [hfin]
  clear r1 r2 hfin
  go_enter Tryz.func15,Tryz.ntmps15
  go_wp2
  go_ret
  exact ⟨rfl,0,rfl⟩
end Go.Proofs.YtbbfcbodhmeanaaGreatDoor



namespace Go.Proofs.YtbbfcbodhmeanaaGreatDoor
open Go.RowKit
theorem small_goals {w w':World} {e:Ending} (h:GoalsPost w (placesP smallT) e w'):Below w.heap.size w w'∧∃ v,e = .returned (.tuple #[v,.int .i64 0])∧w'.ownsRow w.heap.size 42 6 v 3 (glv smallG):=by
 obtain ⟨hb,-,hok⟩:=h
 refine ⟨hb,?_⟩
 rw [small_pl] at hok
 have h2:=hok rfl
 have e1:goalsGo lowT (([(smallT,-1),(partA,0),(partB,0)]:List (PT × Int)).map fun x=>x.1.alone) (whereP [(smallT,-1),(partA,0),(partB,0)]) 0 (([(smallT,-1),(partA,0),(partB,0)]:List (PT × Int)).map fun x=>x.1.alone) [] = some smallG:=by rw [small_wh];exact small_go
 simp only [e1] at h2
 exact h2
theorem small_where {w w':World} {e:Ending} (h:WherePost w (placesP smallT) e w'):Below w.heap.size w w'∧∃ v,e = .returned (.tuple #[v,.int .i64 0])∧w'.ownsRow w.heap.size 9 1 v 3 (wtv [hab,hab,hac]):=by
 obtain ⟨hb,-,hok⟩:=h
 refine ⟨hb,?_⟩
 rw [small_pl] at hok
 have h2:=hok rfl
 simp only [small_wh] at h2
 exact h2
theorem owned_t8 {w:World} {B n:Nat} {v:Value} {ts:List (List UInt8)} (hn:ts.length = n) (h:w.ownsRow B 9 1 v n (wtv ts)):∃ p c,v = .slice p n c∧n≤c∧c≤maxLen∧T8 w p n ts:=by
 have h':=h
 rcases h.2 with ⟨rfl,h0⟩ | ⟨g,cap,cur,rfl,hg,hh,hnc,hcp,hcs,htake⟩
 ·subst h0
  exact ⟨none,0,rfl,Nat.le_refl _,by decide,hn,fun h=>absurd rfl h⟩
 ·refine ⟨some ⟨g,0,none⟩,cap,rfl,hnc,hcp,hn,fun _=>⟨g,0,rfl,fun i hi=>?_⟩⟩
  rw [Nat.zero_add,h'.cellAt i (by omega)]
  unfold wtv
  rw [List.getElem?_map,List.getElem?_eq_getElem (by omega),List.getD_eq_getElem?_getD,List.getElem?_eq_getElem (by omega)]
  rfl
theorem three_goals {w:World} {B:Nat} {v:Value} (h:w.ownsRow B 42 6 v 3 (glv smallG)):∃ g c,v = .slice (some ⟨g,0,none⟩) 3 c∧3≤c∧c≤maxLen∧g < w.heap.size∧∀ i u,(glv smallG)[i]? = some u→i < 18→w.cell? ⟨g,i,none⟩ = some u:=by
 have h':=h
 rcases h.2 with ⟨rfl,h0⟩ | ⟨g,cap,cur,rfl,hg,hh,hnc,hcp,hcs,htake⟩
 ·cases h0
 ·exact ⟨g,cap,rfl,hnc,hcp,(Array.getElem?_eq_some_iff.1 hh).1,fun i u hu hi=>by rw [h'.cellAt i (by omega)];exact hu⟩
set_option maxHeartbeats 8000000 in
set_option maxRecDepth 100000 in
theorem ledc_any (w:World) (hE:LEnv w):Calls Tryz.prog 11 #[] w fun e w'=>e = .returned (.bool true)∧Below w.heap.size w w':=by
 have HE:Hid (LEnv w):=hE
 clear hE
 go_enter Tryz.func11,Tryz.ntmps11
 go_wp2_with fail
 refine (psmall_any _).mono ?_
 rintro e w1 ⟨g1,rfl,hH1,hb1⟩
 have CG:=bgoals_any smallT none 0 (some ⟨g1,0,none⟩) 2 1 w1 (HE.out.below hb1) hH1
 have CG':Hid (Calls Tryz.prog 9 #[.agg #[.string smallT.ty,.string smallT.cs,.string smallT.id,.string smallT.loc,.int .i64 smallT.how,.slice none smallT.body.length 0,.slice (some ⟨g1,0,none⟩) smallT.kids.length 2]] w1 fun e w'=>GoalsPost w1 (placesP smallT) e w'):=CG
 clear CG hH1
 go_wp2_with fail
 refine CG'.out.mono ?_
 intro e w2 h2
 obtain ⟨hb2,v2,rfl,own2⟩:=small_goals h2
 obtain ⟨gg,gc,rfl,hgc1,hgc2,hgl,hcell⟩:=three_goals own2
 have hbe2:Below w.heap.size w w2:=hb1.trans (hb2.mono hb1.size)
 clear CG' h2 own2 hb1 hb2
 go_wp2_with fail
 refine (psmall_any _).mono ?_
 rintro e w3 ⟨g3,rfl,hH3,hb3⟩
 have hbe3:Below w.heap.size w w3:=hbe2.trans (hb3.mono hbe2.size)
 have CW:=bwhere_any smallT none 0 (some ⟨g3,0,none⟩) 2 1 w3 (HE.out.max hbe3) hH3
 have CW':Hid (Calls Tryz.prog 8 #[.agg #[.string smallT.ty,.string smallT.cs,.string smallT.id,.string smallT.loc,.int .i64 smallT.how,.slice none smallT.body.length 0,.slice (some ⟨g3,0,none⟩) smallT.kids.length 2]] w3 fun e w'=>WherePost w3 (placesP smallT) e w'):=CW
 clear CW hH3
 go_wp2_with fail
 refine CW'.out.mono ?_
 intro e w4 h4
 obtain ⟨hb4,v4,rfl,own4⟩:=small_where h4
 obtain ⟨q4,c4,rfl,hc41,hc42,hT4⟩:=owned_t8 rfl own4
 have hb24:Below w2.heap.size w2 w4:=hb3.trans (hb4.mono hb3.size)
 have hbe4:Below w.heap.size w w4:=hbe2.trans (hb24.mono hbe2.size)
 clear CW' h4 own4 hb3 hb4 hbe3
 obtain ⟨W5,hW5⟩:∃ W,W = w4.alloc (.cells #[.string (tx8 hab),.string (tx8 hab),.string (tx8 hac)] 9):=⟨_,rfl⟩
 have hb45:Below w4.heap.size w4 W5:=by rw [hW5];exact (Below.refl _ _).alloc (Nat.le_refl _) _
 have hk5:W5.heap[w4.heap.size]? = some (.cells #[.string (tx8 hab),.string (tx8 hab),.string (tx8 hac)] 9):=by rw [hW5];exact blk_new _ _
 have hT5:T8 W5 (some ⟨w4.heap.size,0,none⟩) 3 [hab,hab,hac]:=⟨rfl,fun _=>⟨w4.heap.size,0,rfl,fun i hi=>by
  match i,hi with
  | 0,_=>exact (blk_c hk5 _).trans rfl
  | 1,_=>exact (blk_c hk5 _).trans rfl
  | 2,_=>exact (blk_c hk5 _).trans rfl⟩⟩
 have CE:Hid (Calls Tryz.prog 15 #[.slice q4 3 c4,.slice (some ⟨w4.heap.size,0,none⟩) 3 3] W5 fun e w'=>e = .returned (.bool true)∧Below W5.heap.size W5 w'):=by
  refine (eqs_any q4 (some ⟨w4.heap.size,0,none⟩) 3 3 c4 3 [hab,hab,hac] [hab,hab,hac] W5 (by decide) (by decide) (hT4.below hb45) hT5).mono ?_
  rintro e w' ⟨rfl,m,rfl⟩
  exact ⟨by rw [decide_eq_true rfl],below_drewN' (Below.refl _ _) m⟩
 go_wp2_with fail
 have hW5':w4.alloc (.cells #[.string (tx8 hab),.string (tx8 hab),.string (tx8 hac)] 9) = W5:=hW5.symm
 show Calls _ _ _ (w4.alloc (.cells #[.string (tx8 hab),.string (tx8 hab),.string (tx8 hac)] 9)) _
 rw [hW5']
 clear hW5 hW5' hk5 hT5 hT4
 refine CE.out.mono ?_
 rintro e w6 ⟨rfl,hb6⟩
 have hb26:Below w2.heap.size w2 w6:=hb24.trans ((hb45.trans (hb6.mono hb45.size)).mono hb24.size)
 have hbe6:Below w.heap.size w w6:=hbe2.trans (hb26.mono hbe2.size)
 have a0:w6.cell? ⟨gg,4,none⟩ = some (.string (tx8 hac)):=(hb26.cell (p:=⟨gg,4,none⟩) hgl).trans (hcell 4 _ rfl (by decide))
 have a1:w6.cell? ⟨gg,5,none⟩ = some (.int .i64 2):=(hb26.cell (p:=⟨gg,5,none⟩) hgl).trans (hcell 5 _ rfl (by decide))
 have a2:w6.cell? ⟨gg,10,none⟩ = some (.string (tx8 [99,105,100,58,120])):=(hb26.cell (p:=⟨gg,10,none⟩) hgl).trans (hcell 10 _ rfl (by decide))
 have a3:w6.cell? ⟨gg,11,none⟩ = some (.int .i64 2):=(hb26.cell (p:=⟨gg,11,none⟩) hgl).trans (hcell 11 _ rfl (by decide))
 have a4:w6.cell? ⟨gg,16,none⟩ = some (.string (tx8 habd)):=(hb26.cell (p:=⟨gg,16,none⟩) hgl).trans (hcell 16 _ rfl (by decide))
 have a5:w6.cell? ⟨gg,17,none⟩ = some (.int .i64 (-1)):=(hb26.cell (p:=⟨gg,17,none⟩) hgl).trans (hcell 17 _ rfl (by decide))
 have t0:(tx8 hac).toList = [104,116,116,112,58,47,47,104,47,97,47,99]:=by rw [ByteArray.toList_eq];rfl
 have t1:(tx8 [99,105,100,58,120]).toList = [99,105,100,58,120]:=by rw [ByteArray.toList_eq];rfl
 have t2:(tx8 habd).toList = [104,116,116,112,58,47,47,104,47,97,47,98,35,100]:=by rw [ByteArray.toList_eq];rfl
 clear CE hcell hb6 hb24 hb26 hb45 hbe4 hbe2
 go_wp2_with fail
 go_ret
 exact ⟨rfl,hbe6⟩
end Go.Proofs.YtbbfcbodhmeanaaGreatDoor



import Derived.Test.YtbbfcbodhmeanaaGreatDoorXbundlesays4
namespace Go.Proofs.YtbbfcbodhmeanaaGreatDoor
open Go.RowKit
theorem PLs.below {w w':World} {X:List PX} {L:List (PT × Int)} (h:PLs w X L) (hb:Below w.heap.size w w'):PLs w' X L :=
 ⟨h.1,fun i x q hx hq=>by
  obtain ⟨e,f,hp⟩:=h.2 i x q hx hq
  exact ⟨e,f,hp.below hb⟩⟩
theorem owns_weaken {w:World} {B B' e s n:Nat} {v:Value} {xs:List Value} (h:w.ownsRow B e s v n xs) (hB:B'≤B):w.ownsRow B' e s v n xs:=by
 refine ⟨h.1,?_⟩
 rcases h.2 with h | ⟨g,cap,cur,e1,e2,r⟩
 ·exact .inl h
 ·exact .inr ⟨g,cap,cur,e1,by omega,r⟩
theorem boxed {w:World} {F:Nat} {p:PT} {pb:Option Addr} {cb:Nat} {pk:Option Addr} {ck:Nat} (h:PHeld w F p pb cb pk ck) (t:TypeId) (c:Array Value) (hc:c = #[.string p.ty,.string p.cs,.string p.id,.string p.loc,.int .i64 p.how,.slice pb p.body.length cb,.slice pk p.kids.length ck]) :
  PAt (w.alloc (.cells c t)) F w.heap.size 0 p:=by
 subst hc
 refine ⟨pb,cb,pk,ck,⟨?_,?_,?_,?_,?_,?_,?_⟩,h.below ((Below.refl _ _).alloc (Nat.le_refl _) _)⟩ <;> simp
def CheckedPost (w:World) (r:Nat × List (PT × Int)) (e:Ending) (w':World):Prop :=
 Below w.heap.size w w'∧(r.1 ≠ 0→e = .returned (.tuple #[.slice none 0 0,.int .i64 (r.1:Int)])) ∧
 (r.1 = 0→∃ q c X,e = .returned (.tuple #[.slice q r.2.length c,.int .i64 0])∧w'.ownsRow w.heap.size 117 2 (.slice q r.2.length c) r.2.length (plv X)∧PLs w' X r.2)
theorem placesP_none (p:PT) (h:put 4 [] p 1 (-1) = none):placesP p = (2,[]):=by unfold placesP;rw [h]
theorem placesP_bad (p:PT) (L:List (PT × Int)) (h:put 4 [] p 1 (-1) = some L) (hb:firstBad L ≠ 0):placesP p = (firstBad L,[]):=by unfold placesP;rw [h];simp only;rw [if_neg hb]
theorem placesP_ok (p:PT) (L:List (PT × Int)) (h:put 4 [] p 1 (-1) = some L) (hb:firstBad L = 0):placesP p = (0,L):=by unfold placesP;rw [h];simp only;rw [if_pos hb]
theorem pl_at (X:List PX) (k:Nat) (x:PX) (h:X[k]? = some x):(plv X)[k * 2]? = some (.pointer (some ⟨x.1.1,x.1.2,none⟩))∧(plv X)[k * 2 + 1]? = some (.int .i64 x.2):=by
 induction X generalizing k with
 | nil=>simp at h
 | cons y X ih =>
  cases k with
  | zero=>obtain rfl:=Option.some.inj h;exact ⟨rfl,rfl⟩
  | succ k =>
   have:=ih k (by simpa using h)
   rw [show (k + 1) * 2 = k * 2 + 2 from by omega]
   exact this
theorem firstBad_stop (L:List (PT × Int)) (k:Nat) (q:PT × Int) (h:L[k]? = some q) (hb:firstBad (L.drop k) = firstBad L) (hq:chkA q.1 ≠ 0):firstBad L = chkA q.1:=by
 obtain ⟨hk,e⟩:=List.getElem?_eq_some_iff.1 h
 rw [← hb,List.drop_eq_getElem_cons hk,e,firstBad,if_neg hq]
theorem firstBad_on (L:List (PT × Int)) (k:Nat) (q:PT × Int) (h:L[k]? = some q) (hb:firstBad (L.drop k) = firstBad L) (hq:chkA q.1 = 0):firstBad (L.drop (k + 1)) = firstBad L:=by
 obtain ⟨hk,e⟩:=List.getElem?_eq_some_iff.1 h
 rw [← hb,List.drop_eq_getElem_cons hk,e,firstBad,if_pos hq]
set_option maxHeartbeats 1000000 in
set_option maxRecDepth 100000 in
theorem checked_any (p:PT) (pb:Option Addr) (cb:Nat) (pk:Option Addr) (ck F:Nat) (w:World) (hH:PHeld w F p pb cb pk ck) :
  Calls Tryz.prog 73 #[.agg #[.string p.ty,.string p.cs,.string p.id,.string p.loc,.int .i64 p.how,.slice pb p.body.length cb,.slice pk p.kids.length ck]] w fun e w'=>CheckedPost w (placesP p) e w':=by
 obtain ⟨c0,hc0⟩:∃ c0,c0 = #[Value.string p.ty,.string p.cs,.string p.id,.string p.loc,.int .i64 p.how,.slice pb p.body.length cb,.slice pk p.kids.length ck]:=⟨_,rfl⟩
 have hPA:=boxed hH 25 _ hc0
 obtain ⟨w0,hw0⟩:∃ w0,w.alloc (.cells c0 25) = w0:=⟨_,rfl⟩
 have hbw:Below w.heap.size w w0:=by rw [← hw0];exact (Below.refl _ _).alloc (Nat.le_refl _) _
 rw [hw0] at hPA
 have CA:Hid (Calls Tryz.prog 128 #[.slice none 0 0,.pointer (some ⟨w.heap.size,0,none⟩),.int .i64 1,.int .i64 (-1)] w0 fun e w'=>PlacesPost w0 (put 4 [] p 1 (-1)) e w') :=
  places_any w0 3 F (.slice none 0 0) [] [] w.heap.size 0 p 1 1 (-1) w0 (by omega) (by omega) rfl (by simp) (Below.refl _ _) (World.ownsRow_nil _ _ _ _) (PLs.nil _) hPA
 have hw0':w.alloc (.cells #[Value.string p.ty,.string p.cs,.string p.id,.string p.loc,.int .i64 p.how,.slice pb p.body.length cb,.slice pk p.kids.length ck] 25) = w0:=by rw [← hc0];exact hw0
 clear hPA hH hw0 hc0
 cases hput:put 4 [] p 1 (-1) with
 | none =>
  have HR:Hid (placesP p = (2,[])):=placesP_none p hput
  rw [hput] at CA
  clear hput
  go_enter Tryz.func73,Tryz.ntmps73
  go_wp2_with fail
  refine CA.out.mono ?_
  rintro e w1 ⟨hb1,rfl⟩
  go_wp2_with fail
  go_ret2
  show CheckedPost _ _ _ _
  rw [HR.out]
  exact ⟨hbw.trans (hb1.mono hbw.size),fun _=>rfl,fun h=>by cases h⟩
 | some L =>
  have HRb:Hid (firstBad L ≠ 0→placesP p = (firstBad L,[])):=placesP_bad p L hput
  have HRo:Hid (firstBad L = 0→placesP p = (0,L)):=placesP_ok p L hput
  have hL12:=(put_length 4 [] L p 1 (-1) (by simp) hput).2
  rw [hput] at CA
  clear hput
  generalize placesP p = RES at *
  go_enter Tryz.func73,Tryz.ntmps73
  go_wp2_with fail
  refine CA.out.mono ?_
  rintro e w1 ⟨hb1,v1,X,rfl,hown,hX⟩
  obtain ⟨q,c,rfl⟩:=owned_slice hown
  have hbel1:=hbw.trans (hb1.mono hbw.size)
  have hXn:X.length = L.length:=hX.1
  have hX1:PLs w1 X L:=hX.below hb1
  obtain ⟨n,hn⟩:∃ n,L.length = n:=⟨_,rfl⟩
  rw [hn] at hown hXn hL12
  have HN:Hid (L.length = n):=hn
  simp only [hn]
  have HEach:Hid (∀ k,k < n→∃ (g:Nat) (x:PX) (y:PT × Int),q = some ⟨g,0,none⟩∧X[k]? = some x∧L[k]? = some y∧w1.cell? ⟨g,k * 2,none⟩ = some (.pointer (some ⟨x.1.1,x.1.2,none⟩))∧w1.cell? ⟨g,k * 2 + 1,none⟩ = some (.int .i64 x.2)∧x.2 = y.2∧∃ f,PAt w1 f x.1.1 x.1.2 y.1):=fun k hk=>by
   rcases hown.2 with ⟨h1,h2⟩ | ⟨g,cap,cur,h1,_⟩
   ·omega
   ·injection h1 with h1
    subst h1
    have hkX:k < X.length:=by omega
    have hkL:k < L.length:=by omega
    have e1:=pl_at X k X[k] (List.getElem?_eq_getElem hkX)
    refine ⟨g,X[k],L[k],rfl,List.getElem?_eq_getElem hkX,List.getElem?_eq_getElem hkL,?_,?_,hX1.2 k X[k] L[k] (List.getElem?_eq_getElem hkX) (List.getElem?_eq_getElem hkL)⟩
    ·rw [hown.cellAt (k * 2) (by omega),e1.1]
    ·rw [hown.cellAt (k * 2 + 1) (by omega),e1.2]
  have HOwn:Hid (w1.ownsRow w.heap.size 117 2 (.slice q n c) n (plv X)):=owns_weaken hown hbw.size
  have HX1:Hid (PLs w1 X L):=hX1
  clear hown hX hX1 CA hb1 hn hXn
  go_wp2_with fail
  go_loopw [17] (fun iv wr=>∃ k:Nat,k≤n∧iv = .int .i64 k∧Below w1.heap.size w1 wr∧Hid (firstBad (L.drop k) = firstBad L)) (fun iv _=>n - (intOf iv).toNat)
  case atStart=>exact ⟨0,Nat.zero_le _,rfl,Below.refl _ _,rfl⟩
  case round =>
   obtain ⟨k,hk,rfl,hbr,HK⟩:=hrel
   have hsr:=hbr.size
   by_cases hlt:k < n
   ·have hlz:(k:Int) < (n:Int):=by omega
    obtain ⟨g,x,y,rfl,hx,hy,hc1,hc2,hxy,f,hPy⟩:=HEach.out k hlt
    clear hxy
    have hcr1:=(hbr.cell (World.block_lt_of_cell? w1 _ hc1)).trans hc1
    have hcr2:=(hbr.cell (World.block_lt_of_cell? w1 _ hc2)).trans hc2
    obtain ⟨⟨bx,ox⟩,ix⟩:=x
    simp only at hcr1 hcr2 hPy
    clear hc1 hc2
    have HA:Hid (∀ w',Below w1.heap.size w1 w'→Calls Tryz.prog 129 #[.pointer (some ⟨bx,ox,none⟩)] w' fun e w''=>e = .returned (.int .i64 (chkA y.1:Nat))∧Below w'.heap.size w' w''):=fun w' hb=>by
     obtain ⟨pb2,cb2,pk2,ck2,h1,h2⟩:=hPy.below hb
     exact alone_any bx ox y.1 pb2 cb2 pk2 ck2 w' h1 h2.1
    have hba:=hbr.alloc hsr (.cells #[Value.pointer (some ⟨bx,ox,none⟩),.int .i64 ix] 117)
    by_cases hq:chkA y.1 = 0
    ·have HK2:Hid (firstBad (L.drop (k + 1)) = firstBad L):=firstBad_on L k y hy HK.out hq
     rw [hq] at HA
     clear hq HK hy hx hPy HEach
     go_wp2_with fail
     refine (HA.out _ hba).mono ?_
     rintro e w2 ⟨rfl,hb2⟩
     have hbel2:=hba.trans (hb2.mono (by simp;omega))
     clear HA
     go_wp2_with fail
     go_roundw
     case rel=>exact ⟨k + 1,by omega,by go_num,hbel2,HK2⟩
     case measure=>simp [intOf];omega
    ·have HK2:Hid (RES = (chkA y.1,[])):=by
      unfold Hid
      have e:=firstBad_stop L k y hy HK.out hq
      rw [HRb.out (by rw [e];exact hq),e]
     have hqz:(((chkA y.1:Nat):Int) == 0) = false:=by rw [beq_eq_false_iff_ne];omega
     clear HK hy hx hPy HEach
     generalize chkA y.1 = ans at *
     go_wp2_with fail
     refine (HA.out _ hba).mono ?_
     rintro e w2 ⟨rfl,hb2⟩
     have hbel2:=hba.trans (hb2.mono (by simp;omega))
     clear HA
     go_wp2_with fail
     go_ret2
     show CheckedPost _ _ _ _
     rw [HK2.out]
     exact ⟨hbel1.trans (hbel2.mono hbel1.size),fun _=>rfl,fun h=>absurd h hq⟩
   ·have hlz:¬ ((k:Int) < (n:Int)):=by omega
    have HK2:Hid (RES = (0,L)):=by
     unfold Hid
     refine HRo.out ?_
     rw [← HK.out,List.drop_of_length_le (by rw [HN.out];omega)];rfl
    clear HK HEach
    go_wp2_with fail
    go_ret2
    show CheckedPost _ _ _ _
    rw [HK2.out]
    refine ⟨hbel1.trans (hbr.mono hbel1.size),fun h=>absurd rfl h,fun _=>⟨q,c,X,?_,?_,HX1.out.below hbr⟩⟩
    ·simp only [HN.out];rfl
    ·simp only [HN.out];exact ownsRow_below HOwn.out hbr
end Go.Proofs.YtbbfcbodhmeanaaGreatDoor



namespace Go.Proofs.YtbbfcbodhmeanaaGreatDoor
open Go.RowKit
def izv (l:List Int):List Value:=l.map fun z=>Value.int .i64 z
def IRow (w:World) (q:Option Addr) (l:List Int):Prop:=l ≠ []→∃ b o,q = some ⟨b,o,none⟩∧∀ i,i < l.length→w.cell? ⟨b,o + i,none⟩ = some (.int .i64 (l.getD i 0))
theorem IRow.below {w w':World} {q:Option Addr} {l:List Int} (h:IRow w q l) (hb:Below w.heap.size w w'):IRow w' q l:=by
 intro hne
 obtain ⟨b,o,rfl,hc⟩:=h hne
 refine ⟨b,o,rfl,fun i hi=>?_⟩
 have:=hc i hi
 rw [hb.cell (p:=⟨b,o + i,none⟩) (World.block_lt_of_cell? w _ this)]
 exact this
theorem owned_ints {w:World} {B:Nat} {v:Value} {l:List Int} (h:w.ownsRow B 3 1 v l.length (izv l)):∃ p c,v = .slice p l.length c∧l.length≤c∧c≤maxLen∧(p = none→l.length = 0∧c = 0)∧IRow w p l:=by
 have h':=h
 rcases h.2 with ⟨rfl,h0⟩ | ⟨g,cap,cur,rfl,hg,hh,hnc,hcp,hcs,htake⟩
 ·refine ⟨none,0,by rw [h0],by omega,by decide,fun _=>⟨h0,rfl⟩,fun hne=>absurd (List.length_eq_zero_iff.1 h0) hne⟩
 ·refine ⟨some ⟨g,0,none⟩,cap,rfl,hnc,hcp,fun e=>(by cases e),fun _=>⟨g,0,rfl,fun i hi=>?_⟩⟩
  rw [Nat.zero_add,h'.cellAt i (by omega),izv,List.getElem?_map,List.getElem?_eq_getElem hi,List.getD_eq_getElem?_getD,List.getElem?_eq_getElem hi]
  rfl
theorem cell_lone (w:World) (v:Value) (t:TypeId) (b:Nat) (hb:b = w.heap.size):∀ j x,[v][j]? = some x→(w.alloc (.cells #[v] t)).cell? ((⟨b,0,none⟩:Addr).add j) = some x:=by
 subst hb
 exact cell_one w v t rfl
def WithinPost (w:World) (r:Nat × List (PT × Int)) (e:Ending) (w':World):Prop :=
 Below w.heap.size w w'∧(r.1 ≠ 0→e = .returned (.tuple #[.slice none 0 0,.int .i64 (r.1:Int)])) ∧
 (r.1 = 0→∃ q c,e = .returned (.tuple #[.slice q r.2.length c,.int .i64 0])∧r.2.length≤c∧c≤maxLen∧(q = none→c = 0)∧IRow w' q (r.2.map (·.2)))
theorem placesP_few (p:PT):(placesP p).2.length≤12:=by
 unfold placesP
 cases h:put 4 [] p 1 (-1) with
 | none=>simp
 | some L =>
  simp only
  split
  ·exact (put_length 4 [] L p 1 (-1) (by simp) h).2
  ·simp
theorem place_each {w:World} {B n:Nat} {q:Option Addr} {c:Nat} {X:List PX} {L:List (PT × Int)} (hown:w.ownsRow B 117 2 (.slice q n c) n (plv X)) (hX:PLs w X L) (hn:n = L.length) (k:Nat) (hk:k < n) :
  ∃ (g:Nat) (b o:Nat) (y:PT × Int),q = some ⟨g,0,none⟩∧L[k]? = some y∧w.cell? ⟨g,k * 2,none⟩ = some (.pointer (some ⟨b,o,none⟩))∧w.cell? ⟨g,k * 2 + 1,none⟩ = some (.int .i64 y.2)∧∃ f,PAt w f b o y.1:=by
 rcases hown.2 with ⟨h1,h2⟩ | ⟨g,cap,cur,h1,_⟩
 ·omega
 ·injection h1 with h1
  subst h1
  have hkX:k < X.length:=by rw [hX.1];omega
  have hkL:k < L.length:=by omega
  have e1:=pl_at X k X[k] (List.getElem?_eq_getElem hkX)
  obtain ⟨e2,f,hp⟩:=hX.2 k X[k] L[k] (List.getElem?_eq_getElem hkX) (List.getElem?_eq_getElem hkL)
  refine ⟨g,X[k].1.1,X[k].1.2,L[k],rfl,List.getElem?_eq_getElem hkL,?_,?_,f,hp⟩
  ·rw [hown.cellAt (k * 2) (by omega),e1.1]
  ·rw [hown.cellAt (k * 2 + 1) (by omega),e1.2,e2]
end Go.Proofs.YtbbfcbodhmeanaaGreatDoor



namespace Go.Proofs.YtbbfcbodhmeanaaGreatDoor
open Go.RowKit
theorem owns_apart {w:World} {B1 e1 s1 n1 B2 e2 s2 n2:Nat} {v1 v2:Value} {x1 x2:List Value} (h1:w.ownsRow B1 e1 s1 v1 n1 x1) (h2:w.ownsRow B2 e2 s2 v2 n2 x2) (hne:e1 ≠ e2):v1.ownBlock = none ∨ v1.ownBlock ≠ v2.ownBlock:=by
 rcases h1.2 with ⟨rfl,_⟩ | ⟨g,cap,cur,rfl,_,hg,_⟩
 ·exact .inl rfl
 ·rcases h2.2 with ⟨rfl,_⟩ | ⟨g',cap',cur',rfl,_,hg',_⟩
  ·exact .inr (by simp [Value.ownBlock])
  ·refine .inr fun e=>?_
   simp only [Value.ownBlock,Option.some.injEq] at e
   subst e
   rw [hg] at hg'
   injection hg' with hg'
   injection hg' with _ h _
   exact hne h
theorem owns_set {w:World} {B e s n:Nat} {v:Value} {xs:List Value} (h:w.ownsRow B e s v n xs) (a:Addr) (u:Value) (ha:a.block < B):(w.setCell a u).ownsRow B e s v n xs:=by
 refine ⟨h.1,?_⟩
 rcases h.2 with h | ⟨g,cap,cur,e1,e2,e3,r⟩
 ·exact .inl h
 ·exact .inr ⟨g,cap,cur,e1,e2,by rw [heap_setCell_other w a g u (by omega)];exact e3,r⟩
theorem set_other {w:World} {b i j:Nat} {v:Value} (h:i ≠ j):(w.setCell ⟨b,i,none⟩ v).cell? ⟨b,j,none⟩ = w.cell? ⟨b,j,none⟩:=World.cell?_setCell_other _ _ _ _ (fun e=>h (congrArg Addr.off e))
theorem bclone_any (pb:Option Addr) (body:List UInt8) (n cb:Nat) (en:n = body.length) (w:World) (hr:BRow w pb body) (hn:n≤140737488355328) :
  Calls Tryz.prog 74 #[.slice pb n cb] w fun e w'=>∃ q c,e = .returned (.slice q n c)∧w'.ownsRow w.heap.size 5 1 (.slice q n c) n (bv body)∧Below w.heap.size w w':=by
 subst en
 cases pb with
 | none =>
  have h0:body = []:=by
   cases hb:body with
   | nil=>rfl
   | cons a l=>obtain ⟨b,o,e,_⟩:=hr (by rw [hb];simp);cases e
  subst h0
  refine (Tryz.bytes_Clone_nil 0 cb w).mono ?_
  rintro e w' ⟨rfl,rfl⟩
  exact ⟨none,0,rfl,World.ownsRow_nil _ _ _ _,Below.refl _ _⟩
 | some a =>
  refine (Tryz.bytes_Clone_at a body.length cb (body.map fun c=>((c.toNat:Nat):Int)) w (by simp) hn (fun i hi=>?_)).mono ?_
  ·obtain ⟨b,o,e,hc⟩:=hr (fun h=>by rw [h] at hi;simp at hi)
   obtain rfl:=Option.some.inj e
   have:=hc i hi
   rw [Addr.add_lit,this]
   simp [List.getD_eq_getElem?_getD,List.getElem?_eq_getElem hi]
  ·rintro e w' ⟨v,rfl,hown,_,hb⟩
   obtain ⟨q,c,rfl⟩:=owned_slice hown
   refine ⟨q,c,rfl,?_,hb⟩
   rw [List.map_map] at hown
   exact hown
abbrev PY:=PT × Option Addr × Nat
def pav (Y:List PY):List Value:=Y.flatMap fun y=>[.string y.1.ty,.string y.1.cs,.string y.1.id,.string y.1.loc,.int .i64 y.1.how,.slice y.2.1 y.1.body.length y.2.2,.slice none 0 0]
theorem pav_snoc (Y:List PY) (y:PY):pav (Y ++ [y]) = pav Y ++ [.string y.1.ty,.string y.1.cs,.string y.1.id,.string y.1.loc,.int .i64 y.1.how,.slice y.2.1 y.1.body.length y.2.2,.slice none 0 0]:=by simp [pav]
theorem pa_at (Y:List PY) (k:Nat) (y:PY) (h:Y[k]? = some y) (j:Nat) (v:Value) (hj:[Value.string y.1.ty,.string y.1.cs,.string y.1.id,.string y.1.loc,.int .i64 y.1.how,.slice y.2.1 y.1.body.length y.2.2,.slice none 0 0][j]? = some v):(pav Y)[k * 7 + j]? = some v:=by
 induction Y generalizing k with
 | nil=>simp at h
 | cons z Y ih =>
  have hj7:j < 7:=by have:=(List.getElem?_eq_some_iff.1 hj).1;simpa using this
  show ([Value.string z.1.ty,.string z.1.cs,.string z.1.id,.string z.1.loc,.int .i64 z.1.how,.slice z.2.1 z.1.body.length z.2.2,.slice none 0 0] ++ pav Y)[k * 7 + j]? = some v
  cases k with
  | zero =>
   obtain rfl:=Option.some.inj h
   rw [List.getElem?_append_left (by simp;omega),Nat.zero_mul,Nat.zero_add]
   exact hj
  | succ k =>
   rw [List.getElem?_append_right (by simp;omega)]
   have:=ih k (by simpa using h)
   rw [← this]
   congr 1
   simp
   omega
def Bodies (w:World) (B:Nat) (Y:List PY):Prop:=∀ y ∈ Y,y.1.kids = []∧PLen y.1∧w.ownsRow B 5 1 (.slice y.2.1 y.1.body.length y.2.2) y.1.body.length (bv y.1.body)
theorem owned_parts {w:World} {B:Nat} {v:Value} {Y:List PY} (h:w.ownsRow B 25 7 v Y.length (pav Y)) (hb:Bodies w B Y):∃ p c,v = .slice p Y.length c∧Y.length≤c∧c≤maxLen∧(p = none→Y.length = 0∧c = 0)∧KAt w 1 p (Y.map (·.1)):=by
 have h':=h
 rcases h.2 with ⟨rfl,h0⟩ | ⟨g,cap,cur,rfl,hg,hh,hnc,hcp,hcs,htake⟩
 ·refine ⟨none,0,by rw [h0],by omega,by decide,fun _=>⟨h0,rfl⟩,?_⟩
  rw [List.length_eq_zero_iff.1 h0]
  exact KAt.nil _ _ _
 ·refine ⟨some ⟨g,0,none⟩,cap,rfl,hnc,hcp,fun e=>(by cases e),KAt.mk fun i hi=>?_⟩
  have hi':i < Y.length:=by simpa using hi
  have hy:Y[i]? = some Y[i]:=List.getElem?_eq_getElem hi'
  have e:(Y.map (·.1)).getD i pt0 = Y[i].1:=by simp [List.getD_eq_getElem?_getD,hi']
  obtain ⟨k0,k1,k2⟩:=hb Y[i] (List.getElem_mem hi')
  obtain ⟨q,c,e2,k3,k4,k5,k6⟩:=owned_row k2
  injection e2 with e3 e4 e5
  rw [e]
  have cell:∀ j v,[Value.string Y[i].1.ty,.string Y[i].1.cs,.string Y[i].1.id,.string Y[i].1.loc,.int .i64 Y[i].1.how,.slice Y[i].2.1 Y[i].1.body.length Y[i].2.2,.slice none 0 0][j]? = some v→j < 7→w.cell? ⟨g,0 + i * 7 + j,none⟩ = some v:=fun j v hj h7=>by
   rw [h'.cellAt (0 + i * 7 + j) (by omega),Nat.zero_add]
   exact pa_at Y i Y[i] hy j v hj
  refine ⟨Y[i].2.1,Y[i].2.2,none,0,⟨cell 0 _ rfl (by omega),cell 1 _ rfl (by omega),cell 2 _ rfl (by omega),cell 3 _ rfl (by omega),cell 4 _ rfl (by omega),cell 5 _ rfl (by omega),by rw [k0];exact cell 6 _ rfl (by omega)⟩,k1,?_,?_,?_,?_⟩
  ·rw [e5];exact ⟨k3,k4,fun h=>(k5 (e3 ▸ h)).2⟩
  ·rw [e3];exact k6
  ·rw [k0];exact ⟨Nat.le_refl _,by decide,fun _=>rfl⟩
  ·exact k0
def AllPost (w:World) (r:Nat × List (PT × Int)) (e:Ending) (w':World):Prop :=
 Below w.heap.size w w'∧(r.1 ≠ 0→e = .returned (.tuple #[.slice none 0 0,.int .i64 (r.1:Int)])) ∧
 (r.1 = 0→∃ q c,e = .returned (.tuple #[.slice q r.2.length c,.int .i64 0])∧r.2.length≤c∧c≤maxLen∧(q = none→c = 0)∧KAt w' 1 q (r.2.map fun x=>x.1.alone))
theorem info_part:(Tryz.prog.info? 25).map (fun i=>(i.zero,i.size,i.bytes)) = some (some (.agg #[.string ⟨#[]⟩,.string ⟨#[]⟩,.string ⟨#[]⟩,.string ⟨#[]⟩,.int .i64 0,.slice none 0 0,.slice none 0 0]),7,120):=by kernel_rfl
theorem cell_seven (w:World) (c:List Value) (t:TypeId) (b:Nat) (hb:b = w.heap.size):∀ j x,c[j]? = some x→(w.alloc (.cells c.toArray t)).cell? ((⟨b,0,none⟩:Addr).add j) = some x:=by
 subst hb
 intro j x hj
 rw [Addr.add_lit,Nat.zero_add]
 simp [hj]
theorem made_seven {w w1:World} {t:TypeId} {a b c d e f g:Value} (hb:Below (w.alloc (.cells #[a,b,c,d,e,f,g] t)).heap.size (w.alloc (.cells #[a,b,c,d,e,f,g] t)) w1) (k:Nat) (hk:k = w.heap.size) :
  w1.cell? ⟨k,0,none⟩ = some a∧w1.cell? ⟨k,1,none⟩ = some b∧w1.cell? ⟨k,2,none⟩ = some c∧w1.cell? ⟨k,3,none⟩ = some d∧w1.cell? ⟨k,4,none⟩ = some e∧w1.cell? ⟨k,5,none⟩ = some f∧w1.cell? ⟨k,6,none⟩ = some g ∧
   w1.frozen? ⟨k,5,none⟩ = false∧w1.frozen? ⟨k,6,none⟩ = false∧k < w1.heap.size∧Below w.heap.size w w1:=by
 subst hk
 have hs:=hb.size
 rw [World.size_alloc] at hs
 refine ⟨?_,?_,?_,?_,?_,?_,?_,?_,?_,by omega,((Below.refl _ _).alloc (Nat.le_refl _) _).trans (hb.mono (by simp))⟩
 ·rw [hb.cell (p:=⟨w.heap.size,0,none⟩) (by simp)];simp
 ·rw [hb.cell (p:=⟨w.heap.size,1,none⟩) (by simp)];simp
 ·rw [hb.cell (p:=⟨w.heap.size,2,none⟩) (by simp)];simp
 ·rw [hb.cell (p:=⟨w.heap.size,3,none⟩) (by simp)];simp
 ·rw [hb.cell (p:=⟨w.heap.size,4,none⟩) (by simp)];simp
 ·rw [hb.cell (p:=⟨w.heap.size,5,none⟩) (by simp)];simp
 ·rw [hb.cell (p:=⟨w.heap.size,6,none⟩) (by simp)];simp
 ·rw [hb.frozen (p:=⟨w.heap.size,5,none⟩) (by simp)];simp
 ·rw [hb.frozen (p:=⟨w.heap.size,6,none⟩) (by simp)];simp
theorem firstBad_each:∀ (L:List (PT × Int)),firstBad L = 0→∀ x ∈ L,chkA x.1 = 0
 | [],_,x,hx=>by cases hx
 | y::L,h,x,hx=>by
  rw [firstBad] at h
  split at h
  ·rename_i h0
   rcases List.mem_cons.1 hx with e | e
   ·subst e;exact h0
   ·exact firstBad_each L h x e
  ·rename_i h0;exact absurd h h0
theorem placesP_each (p:PT):∀ x ∈ (placesP p).2,chkA x.1 = 0:=by
 unfold placesP
 cases hp:put 4 [] p 1 (-1) with
 | none=>intro x hx;cases hx
 | some L =>
  simp only
  by_cases hb:firstBad L = 0
  ·rw [if_pos hb];exact firstBad_each L hb
  ·rw [if_neg hb];intro x hx;cases hx
theorem chkA_body (p:PT) (h:chkA p = 0):p.body.length≤4000:=by
 unfold chkA at h
 split at h
 ·cases h
 ·split at h
  ·cases h
  ·split at h
   ·cases h
   ·omega
end Go.Proofs.YtbbfcbodhmeanaaGreatDoor



namespace Go.Proofs.YtbbfcbodhmeanaaGreatDoor
open Go.RowKit
def tx8 (l:List UInt8):ByteArray:=⟨l.toArray⟩
theorem tx8_data (l:List UInt8):(tx8 l).data.toList = l:=rfl
theorem tx8_size (l:List UInt8):(tx8 l).size = l.length:=by show l.toArray.size = _;simp
structure SAt (w:World) (g:Nat) (q:Option Addr) (c:Nat) (L:List PT) (wh:List (List UInt8)):Prop where
 blk:∃ cs,w.heap[g]? = some (.cells cs 77)∧cs[0]? = some (.slice q L.length c)∧∀ i,i < 12→cs[1 + i]? = some (.string (tx8 (wh.getD i [])))
 few:L.length≤12
 cap:L.length≤c∧c≤maxLen
 kids:KAt w 1 q L
 short:∀ x ∈ wh,x.length≤120
theorem SAt.slice {w:World} {g:Nat} {q:Option Addr} {c:Nat} {L:List PT} {wh:List (List UInt8)} (h:SAt w g q c L wh):w.cell? ⟨g,0,none⟩ = some (.slice q L.length c):=by
 obtain ⟨cs,h1,h2,-⟩:=h.blk
 rw [blk_c h1,h2]
theorem SAt.text {w:World} {g:Nat} {q:Option Addr} {c:Nat} {L:List PT} {wh:List (List UInt8)} (h:SAt w g q c L wh) (i:Nat) (hi:i < 12):w.cell? ⟨g,1 + i,none⟩ = some (.string (tx8 (wh.getD i []))):=by
 obtain ⟨cs,h1,-,h3⟩:=h.blk
 rw [blk_c h1,h3 i hi]
theorem SAt.lt {w:World} {g:Nat} {q:Option Addr} {c:Nat} {L:List PT} {wh:List (List UInt8)} (h:SAt w g q c L wh):g < w.heap.size:=by
 obtain ⟨cs,h1,-⟩:=h.blk
 exact (Array.getElem?_eq_some_iff.1 h1).1
theorem SAt.below {w w':World} {g:Nat} {q:Option Addr} {c:Nat} {L:List PT} {wh:List (List UInt8)} (h:SAt w g q c L wh) (hb:Below w.heap.size w w'):SAt w' g q c L wh:=by
 obtain ⟨cs,h1,h2,h3⟩:=h.blk
 exact ⟨⟨cs,blk_on h1 hb,h2,h3⟩,h.few,h.cap,KAt.below hb _ _ _ h.kids,h.short⟩
theorem wh_short {wh:List (List UInt8)} (h:∀ x ∈ wh,x.length≤120) (i:Nat):(wh.getD i []).length≤120:=by
 rw [List.getD_eq_getElem?_getD]
 cases hx:wh[i]? with
 | none=>simp
 | some y=>simpa using h y (List.mem_of_getElem? hx)
theorem tx8_empty (l:List UInt8):(tx8 l).toList.isEmpty = l.isEmpty:=by rw [ByteArray.toList_eq,tx8_data]
set_option maxHeartbeats 2000000 in
theorem from_any (i:Int) (hi:i < 12) (w:World) (g:Nat) (q:Option Addr) (c:Nat) (L:List PT) (wh:List (List UInt8)) (h:SAt w g q c L wh) :
  Calls Tryz.prog 41 #[.pointer (some ⟨g,0,none⟩),.int .i64 i] w fun e w'=>e = .returned (.string (tx8 (fromW wh i)))∧w' = w:=by
 by_cases h0:i < 0
 ·have HN:Hid (fromW wh i = nowS):=by unfold Hid fromW;rw [if_pos h0]
  clear h
  go_enter Tryz.func41,Tryz.ntmps41
  go_wp2
  go_ret
  exact ⟨by rw [HN.out];rfl,rfl⟩
 ·obtain ⟨k,rfl⟩:∃ k:Nat,i = (k:Int):=⟨i.toNat,by omega⟩
  have hk:k < 12:=by omega
  have hc:=h.text k hk
  clear h
  have HE:=tx8_empty (wh.getD k [])
  by_cases he:wh.getD k [] = []
  ·have HN:Hid (fromW wh k = nowS):=by unfold Hid fromW;rw [if_neg h0,if_pos (by simpa using he)]
   rw [he] at hc HE
   have hE:(tx8 []).toList.isEmpty = true:=HE
   clear HE he
   go_enter Tryz.func41,Tryz.ntmps41
   go_wp2
   go_ret
   exact ⟨by rw [HN.out];rfl,rfl⟩
  ·have HN:Hid (fromW wh k = wh.getD k []):=by unfold Hid fromW;rw [if_neg h0,if_neg (by simpa using he)];simp
   have hE:(tx8 (wh.getD k [])).toList.isEmpty = false:=by rw [HE];simpa using he
   clear HE he
   generalize wh.getD k [] = t at *
   go_enter Tryz.func41,Tryz.ntmps41
   go_wp2
   go_ret
   exact ⟨by rw [HN.out];rfl,rfl⟩
theorem SAt.part {w:World} {g:Nat} {q:Option Addr} {c:Nat} {L:List PT} {wh:List (List UInt8)} (h:SAt w g q c L wh) (k:Nat) (hk:k < L.length) :
  ∃ b o,q = some ⟨b,o,none⟩∧b < w.heap.size∧∃ pb cb pk ck,PCells w b (o + k * 7) (L.getD k pt0) pb cb pk ck∧PHeld w 0 (L.getD k pt0) pb cb pk ck:=by
 obtain ⟨b,o,e,hp⟩:=KAt.each h.kids (fun e=>by rw [e] at hk;simp at hk)
 exact ⟨b,o,e,(hp k hk).lt,hp k hk⟩
theorem list_eq (a b:ByteArray):(a.toList == b.toList) = (a.data.toList == b.data.toList):=by rw [ByteArray.toList_eq,ByteArray.toList_eq]
set_option maxHeartbeats 2000000 in
theorem ok1_any (k:Nat) (w:World) (g:Nat) (q:Option Addr) (c:Nat) (L:List PT) (wh:List (List UInt8)) (hk:k < L.length) (h:SAt w g q c L wh) (s0 i0:Nat) (t:List UInt8) (h1:w.cell? ⟨s0,0,none⟩ = some (.pointer (some ⟨g,0,none⟩))) (h2:w.cell? ⟨i0,0,none⟩ = some (.string (tx8 t))) :
  Calls Tryz.prog 83 #[.int .i64 (k:Int),.pointer (some ⟨s0,0,none⟩),.pointer (some ⟨i0,0,none⟩)] w fun e w'=>e = .returned (.bool (okID t k (L.getD k pt0)))∧∃ m,w' = w.drewN m:=by
 obtain ⟨b,o,rfl,-,pb,cb,pk,ck,⟨-,-,c2,-⟩,-⟩:=h.part k hk
 have hs:=h.slice
 have hc1:=h.cap.1
 have hc2:=h.cap.2
 have h12:=h.few
 clear h
 obtain ⟨n,hn⟩:∃ n,L.length = n:=⟨_,rfl⟩
 rw [hn] at hk hs hc1 h12
 clear hn
 have HO:Hid (okID t k (L.getD k pt0) = (!(L.getD k pt0).id.toList.isEmpty && ((L.getD k pt0).id.toList == (tx8 t).toList))):=by
  unfold Hid okID
  rw [ByteArray.toList_eq,ByteArray.toList_eq,tx8_data]
 generalize (L.getD k pt0).id = I at *
 generalize okID t k (L.getD k pt0) = R at *
 have hkz:(k:Int) < (n:Int):=by omega
 by_cases he:I.toList.isEmpty = true
 ·have HR:Hid (R = false):=by unfold Hid;rw [HO.out,he];rfl
  clear HO
  go_enter Tryz.func83,Tryz.ntmps83
  go_wp2_with fail
  go_quiet (fail)
  go_wp2_with fail
  go_ret
  exact ⟨by rw [HR.out];rfl,_,rfl⟩
 ·have he:I.toList.isEmpty = false:=by simpa using he
  have HR:Hid (R = (I.toList == (tx8 t).toList)):=by unfold Hid;rw [HO.out,he];rfl
  clear HO
  go_enter Tryz.func83,Tryz.ntmps83
  go_wp2_with fail
  go_quiet (fail)
  go_wp2_with fail
  go_ret
  exact ⟨by rw [HR.out];rfl,_,rfl⟩
end Go.Proofs.YtbbfcbodhmeanaaGreatDoor


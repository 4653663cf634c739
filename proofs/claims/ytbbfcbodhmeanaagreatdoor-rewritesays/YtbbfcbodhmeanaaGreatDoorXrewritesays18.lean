
import Derived.Test.YtbbfcbodhmeanaaGreatDoorXrewritesays17
import Derived.Deep.WholeRow
namespace Go.Proofs.YtbbfcbodhmeanaaGreatDoor
open Go.RowKit
structure UV where
 sch:ByteArray
 hh:Bool
 hst:ByteArray
 pth:ByteArray
 hq:Bool
 qry:ByteArray
 hf:Bool
 frg:ByteArray
def UV.l (u:UV):UL:=⟨u.sch.data.toList,u.hh,u.hst.data.toList,u.pth.data.toList,u.hq,u.qry.data.toList,u.hf,u.frg.data.toList⟩
def UV.v (u:UV):Value:=.agg #[.string u.sch,.bool u.hh,.string u.hst,.string u.pth,.bool u.hq,.string u.qry,.bool u.hf,.string u.frg]
def ofL (l:UL):UV:=⟨⟨l.sch.toArray⟩,l.hh,⟨l.hst.toArray⟩,⟨l.pth.toArray⟩,l.hq,⟨l.qry.toArray⟩,l.hf,⟨l.frg.toArray⟩⟩
theorem ofL_l (l:UL):(ofL l).l = l:=rfl
def UV.short (n:Nat) (u:UV):Prop:=u.sch.size≤n∧u.hst.size≤n∧u.pth.size≤n∧u.qry.size≤n∧u.frg.size≤n
theorem data_app (a b:ByteArray):(a ++ b).data.toList = a.data.toList ++ b.data.toList:=by simp
theorem str_same {a b:ByteArray} (h:a.data.toList = b.data.toList):Ending.returned (.string a) = .returned (.string b):=by rw [ba_inj h]
theorem bempty_no (s:ByteArray) (h:s.data.toList ≠ []):s.toList.isEmpty = false:=by
 rw [ByteArray.toList_eq]
 cases hs:s.data.toList with
 | nil=>exact absurd hs h
 | cons a l=>rfl
theorem bempty_yes (s:ByteArray) (h:s.data.toList = []):s = ⟨#[]⟩:=by
 apply ByteArray.ext;apply Array.toList_inj.1;exact h
theorem text_0000_eq (hst pth qry frg:ByteArray):textU (UV.l ⟨⟨#[]⟩,false,hst,pth,false,qry,false,frg⟩) = (pth.data.toList ++ ([] ++ [])):=by
 rfl
set_option maxHeartbeats 1000000 in
theorem text_0000 (hst pth qry frg T:ByteArray) (_h2:hst.size≤1000) (_h3:pth.size≤1000) (_h4:qry.size≤1000) (_h5:frg.size≤1000) (hT:T.data.toList = textU (UV.l ⟨⟨#[]⟩,false,hst,pth,false,qry,false,frg⟩)) (w:World) :
  Calls Tryz.prog 98 #[.agg #[.string ⟨#[]⟩,.bool false,.string hst,.string pth,.bool false,.string qry,.bool false,.string frg]] w fun e w'=>e = .returned (.string T)∧Below w.heap.size w w':=by
 have HT:Hid (T.data.toList = textU (UV.l ⟨⟨#[]⟩,false,hst,pth,false,qry,false,frg⟩)):=hT
 clear hT
 go_enter Tryz.func98,Tryz.ntmps98
 go_wp2
 go_ret
 refine ⟨str_same ?_,(Below.refl _ _).alloc (Nat.le_refl _) _⟩
 rw [HT.out,text_0000_eq hst pth qry frg]
 simp only [data_app]
 simp
theorem text_0001_eq (hst pth qry frg:ByteArray):textU (UV.l ⟨⟨#[]⟩,false,hst,pth,false,qry,true,frg⟩) = pth.data.toList ++ ((35::frg.data.toList)):=by
 rfl
set_option maxHeartbeats 1000000 in
theorem text_0001 (hst pth qry frg T:ByteArray) (_h2:hst.size≤1000) (_h3:pth.size≤1000) (_h4:qry.size≤1000) (_h5:frg.size≤1000) (hT:T.data.toList = textU (UV.l ⟨⟨#[]⟩,false,hst,pth,false,qry,true,frg⟩)) (w:World) :
  Calls Tryz.prog 98 #[.agg #[.string ⟨#[]⟩,.bool false,.string hst,.string pth,.bool false,.string qry,.bool true,.string frg]] w fun e w'=>e = .returned (.string T)∧Below w.heap.size w w':=by
 have HT:Hid (T.data.toList = textU (UV.l ⟨⟨#[]⟩,false,hst,pth,false,qry,true,frg⟩)):=hT
 clear hT
 go_enter Tryz.func98,Tryz.ntmps98
 go_wp2
 go_ret
 refine ⟨str_same ?_,(Below.refl _ _).alloc (Nat.le_refl _) _⟩
 rw [HT.out,text_0001_eq hst pth qry frg]
 simp only [data_app]
 simp
theorem text_0010_eq (hst pth qry frg:ByteArray):textU (UV.l ⟨⟨#[]⟩,false,hst,pth,true,qry,false,frg⟩) = pth.data.toList ++ ((63::(qry.data.toList ++ []))):=by
 rfl
set_option maxHeartbeats 1000000 in
theorem text_0010 (hst pth qry frg T:ByteArray) (_h2:hst.size≤1000) (_h3:pth.size≤1000) (_h4:qry.size≤1000) (_h5:frg.size≤1000) (hT:T.data.toList = textU (UV.l ⟨⟨#[]⟩,false,hst,pth,true,qry,false,frg⟩)) (w:World) :
  Calls Tryz.prog 98 #[.agg #[.string ⟨#[]⟩,.bool false,.string hst,.string pth,.bool true,.string qry,.bool false,.string frg]] w fun e w'=>e = .returned (.string T)∧Below w.heap.size w w':=by
 have HT:Hid (T.data.toList = textU (UV.l ⟨⟨#[]⟩,false,hst,pth,true,qry,false,frg⟩)):=hT
 clear hT
 go_enter Tryz.func98,Tryz.ntmps98
 go_wp2
 go_ret
 refine ⟨str_same ?_,(Below.refl _ _).alloc (Nat.le_refl _) _⟩
 rw [HT.out,text_0010_eq hst pth qry frg]
 simp only [data_app]
 simp
theorem text_0011_eq (hst pth qry frg:ByteArray):textU (UV.l ⟨⟨#[]⟩,false,hst,pth,true,qry,true,frg⟩) = pth.data.toList ++ ((63::qry.data.toList) ++ ((35::frg.data.toList))):=by
 rfl
set_option maxHeartbeats 1000000 in
theorem text_0011 (hst pth qry frg T:ByteArray) (_h2:hst.size≤1000) (_h3:pth.size≤1000) (_h4:qry.size≤1000) (_h5:frg.size≤1000) (hT:T.data.toList = textU (UV.l ⟨⟨#[]⟩,false,hst,pth,true,qry,true,frg⟩)) (w:World) :
  Calls Tryz.prog 98 #[.agg #[.string ⟨#[]⟩,.bool false,.string hst,.string pth,.bool true,.string qry,.bool true,.string frg]] w fun e w'=>e = .returned (.string T)∧Below w.heap.size w w':=by
 have HT:Hid (T.data.toList = textU (UV.l ⟨⟨#[]⟩,false,hst,pth,true,qry,true,frg⟩)):=hT
 clear hT
 go_enter Tryz.func98,Tryz.ntmps98
 go_wp2
 go_ret
 refine ⟨str_same ?_,(Below.refl _ _).alloc (Nat.le_refl _) _⟩
 rw [HT.out,text_0011_eq hst pth qry frg]
 simp only [data_app]
 simp
theorem text_0100_eq (hst pth qry frg:ByteArray):textU (UV.l ⟨⟨#[]⟩,true,hst,pth,false,qry,false,frg⟩) = ([47,47] ++ hst.data.toList) ++ ((pth.data.toList ++ ([] ++ []))):=by
 rfl
set_option maxHeartbeats 1000000 in
theorem text_0100 (hst pth qry frg T:ByteArray) (_h2:hst.size≤1000) (_h3:pth.size≤1000) (_h4:qry.size≤1000) (_h5:frg.size≤1000) (hT:T.data.toList = textU (UV.l ⟨⟨#[]⟩,true,hst,pth,false,qry,false,frg⟩)) (w:World) :
  Calls Tryz.prog 98 #[.agg #[.string ⟨#[]⟩,.bool true,.string hst,.string pth,.bool false,.string qry,.bool false,.string frg]] w fun e w'=>e = .returned (.string T)∧Below w.heap.size w w':=by
 have HT:Hid (T.data.toList = textU (UV.l ⟨⟨#[]⟩,true,hst,pth,false,qry,false,frg⟩)):=hT
 clear hT
 go_enter Tryz.func98,Tryz.ntmps98
 go_wp2
 go_ret
 refine ⟨str_same ?_,(Below.refl _ _).alloc (Nat.le_refl _) _⟩
 rw [HT.out,text_0100_eq hst pth qry frg]
 simp only [data_app]
 simp
theorem text_0101_eq (hst pth qry frg:ByteArray):textU (UV.l ⟨⟨#[]⟩,true,hst,pth,false,qry,true,frg⟩) = ([47,47] ++ hst.data.toList) ++ (pth.data.toList ++ ((35::frg.data.toList))):=by
 rfl
set_option maxHeartbeats 1000000 in
theorem text_0101 (hst pth qry frg T:ByteArray) (_h2:hst.size≤1000) (_h3:pth.size≤1000) (_h4:qry.size≤1000) (_h5:frg.size≤1000) (hT:T.data.toList = textU (UV.l ⟨⟨#[]⟩,true,hst,pth,false,qry,true,frg⟩)) (w:World) :
  Calls Tryz.prog 98 #[.agg #[.string ⟨#[]⟩,.bool true,.string hst,.string pth,.bool false,.string qry,.bool true,.string frg]] w fun e w'=>e = .returned (.string T)∧Below w.heap.size w w':=by
 have HT:Hid (T.data.toList = textU (UV.l ⟨⟨#[]⟩,true,hst,pth,false,qry,true,frg⟩)):=hT
 clear hT
 go_enter Tryz.func98,Tryz.ntmps98
 go_wp2
 go_ret
 refine ⟨str_same ?_,(Below.refl _ _).alloc (Nat.le_refl _) _⟩
 rw [HT.out,text_0101_eq hst pth qry frg]
 simp only [data_app]
 simp
theorem text_0110_eq (hst pth qry frg:ByteArray):textU (UV.l ⟨⟨#[]⟩,true,hst,pth,true,qry,false,frg⟩) = ([47,47] ++ hst.data.toList) ++ (pth.data.toList ++ ((63::(qry.data.toList ++ [])))):=by
 rfl
set_option maxHeartbeats 1000000 in
theorem text_0110 (hst pth qry frg T:ByteArray) (_h2:hst.size≤1000) (_h3:pth.size≤1000) (_h4:qry.size≤1000) (_h5:frg.size≤1000) (hT:T.data.toList = textU (UV.l ⟨⟨#[]⟩,true,hst,pth,true,qry,false,frg⟩)) (w:World) :
  Calls Tryz.prog 98 #[.agg #[.string ⟨#[]⟩,.bool true,.string hst,.string pth,.bool true,.string qry,.bool false,.string frg]] w fun e w'=>e = .returned (.string T)∧Below w.heap.size w w':=by
 have HT:Hid (T.data.toList = textU (UV.l ⟨⟨#[]⟩,true,hst,pth,true,qry,false,frg⟩)):=hT
 clear hT
 go_enter Tryz.func98,Tryz.ntmps98
 go_wp2
 go_ret
 refine ⟨str_same ?_,(Below.refl _ _).alloc (Nat.le_refl _) _⟩
 rw [HT.out,text_0110_eq hst pth qry frg]
 simp only [data_app]
 simp
theorem text_0111_eq (hst pth qry frg:ByteArray):textU (UV.l ⟨⟨#[]⟩,true,hst,pth,true,qry,true,frg⟩) = ([47,47] ++ hst.data.toList) ++ (pth.data.toList ++ ((63::qry.data.toList) ++ ((35::frg.data.toList)))):=by
 rfl
set_option maxHeartbeats 1000000 in
theorem text_0111 (hst pth qry frg T:ByteArray) (_h2:hst.size≤1000) (_h3:pth.size≤1000) (_h4:qry.size≤1000) (_h5:frg.size≤1000) (hT:T.data.toList = textU (UV.l ⟨⟨#[]⟩,true,hst,pth,true,qry,true,frg⟩)) (w:World) :
  Calls Tryz.prog 98 #[.agg #[.string ⟨#[]⟩,.bool true,.string hst,.string pth,.bool true,.string qry,.bool true,.string frg]] w fun e w'=>e = .returned (.string T)∧Below w.heap.size w w':=by
 have HT:Hid (T.data.toList = textU (UV.l ⟨⟨#[]⟩,true,hst,pth,true,qry,true,frg⟩)):=hT
 clear hT
 go_enter Tryz.func98,Tryz.ntmps98
 go_wp2
 go_ret
 refine ⟨str_same ?_,(Below.refl _ _).alloc (Nat.le_refl _) _⟩
 rw [HT.out,text_0111_eq hst pth qry frg]
 simp only [data_app]
 simp
theorem text_1000_eq (sch hst pth qry frg:ByteArray) (hne:sch.data.toList ≠ []):textU (UV.l ⟨sch,false,hst,pth,false,qry,false,frg⟩) = (sch.data.toList ++ [58]) ++ ((pth.data.toList ++ ([] ++ []))):=by
 have hle:sch.data.toList.isEmpty = false:=by
  cases hs:sch.data.toList with
  | nil=>exact absurd hs hne
  | cons a b=>rfl
 unfold textU UV.l
 simp only
 rw [hle]
 rfl
set_option maxHeartbeats 1000000 in
theorem text_1000 (sch hst pth qry frg T:ByteArray) (hne:sch.data.toList ≠ []) (_h1:sch.size≤1000) (_h2:hst.size≤1000) (_h3:pth.size≤1000) (_h4:qry.size≤1000) (_h5:frg.size≤1000) (hT:T.data.toList = textU (UV.l ⟨sch,false,hst,pth,false,qry,false,frg⟩)) (w:World) :
  Calls Tryz.prog 98 #[.agg #[.string sch,.bool false,.string hst,.string pth,.bool false,.string qry,.bool false,.string frg]] w fun e w'=>e = .returned (.string T)∧Below w.heap.size w w':=by
 have HT:Hid (T.data.toList = textU (UV.l ⟨sch,false,hst,pth,false,qry,false,frg⟩)):=hT
 have hse:=bempty_no sch hne
 clear hT
 go_enter Tryz.func98,Tryz.ntmps98
 go_wp2
 go_ret
 refine ⟨str_same ?_,(Below.refl _ _).alloc (Nat.le_refl _) _⟩
 rw [HT.out,text_1000_eq sch hst pth qry frg hne]
 simp only [data_app]
 simp
theorem text_1001_eq (sch hst pth qry frg:ByteArray) (hne:sch.data.toList ≠ []):textU (UV.l ⟨sch,false,hst,pth,false,qry,true,frg⟩) = (sch.data.toList ++ [58]) ++ (pth.data.toList ++ ((35::frg.data.toList))):=by
 have hle:sch.data.toList.isEmpty = false:=by
  cases hs:sch.data.toList with
  | nil=>exact absurd hs hne
  | cons a b=>rfl
 unfold textU UV.l
 simp only
 rw [hle]
 rfl
set_option maxHeartbeats 1000000 in
theorem text_1001 (sch hst pth qry frg T:ByteArray) (hne:sch.data.toList ≠ []) (_h1:sch.size≤1000) (_h2:hst.size≤1000) (_h3:pth.size≤1000) (_h4:qry.size≤1000) (_h5:frg.size≤1000) (hT:T.data.toList = textU (UV.l ⟨sch,false,hst,pth,false,qry,true,frg⟩)) (w:World) :
  Calls Tryz.prog 98 #[.agg #[.string sch,.bool false,.string hst,.string pth,.bool false,.string qry,.bool true,.string frg]] w fun e w'=>e = .returned (.string T)∧Below w.heap.size w w':=by
 have HT:Hid (T.data.toList = textU (UV.l ⟨sch,false,hst,pth,false,qry,true,frg⟩)):=hT
 have hse:=bempty_no sch hne
 clear hT
 go_enter Tryz.func98,Tryz.ntmps98
 go_wp2
 go_ret
 refine ⟨str_same ?_,(Below.refl _ _).alloc (Nat.le_refl _) _⟩
 rw [HT.out,text_1001_eq sch hst pth qry frg hne]
 simp only [data_app]
 simp
theorem text_1010_eq (sch hst pth qry frg:ByteArray) (hne:sch.data.toList ≠ []):textU (UV.l ⟨sch,false,hst,pth,true,qry,false,frg⟩) = (sch.data.toList ++ [58]) ++ (pth.data.toList ++ ((63::(qry.data.toList ++ [])))):=by
 have hle:sch.data.toList.isEmpty = false:=by
  cases hs:sch.data.toList with
  | nil=>exact absurd hs hne
  | cons a b=>rfl
 unfold textU UV.l
 simp only
 rw [hle]
 rfl
set_option maxHeartbeats 1000000 in
theorem text_1010 (sch hst pth qry frg T:ByteArray) (hne:sch.data.toList ≠ []) (_h1:sch.size≤1000) (_h2:hst.size≤1000) (_h3:pth.size≤1000) (_h4:qry.size≤1000) (_h5:frg.size≤1000) (hT:T.data.toList = textU (UV.l ⟨sch,false,hst,pth,true,qry,false,frg⟩)) (w:World) :
  Calls Tryz.prog 98 #[.agg #[.string sch,.bool false,.string hst,.string pth,.bool true,.string qry,.bool false,.string frg]] w fun e w'=>e = .returned (.string T)∧Below w.heap.size w w':=by
 have HT:Hid (T.data.toList = textU (UV.l ⟨sch,false,hst,pth,true,qry,false,frg⟩)):=hT
 have hse:=bempty_no sch hne
 clear hT
 go_enter Tryz.func98,Tryz.ntmps98
 go_wp2
 go_ret
 refine ⟨str_same ?_,(Below.refl _ _).alloc (Nat.le_refl _) _⟩
 rw [HT.out,text_1010_eq sch hst pth qry frg hne]
 simp only [data_app]
 simp
theorem text_1011_eq (sch hst pth qry frg:ByteArray) (hne:sch.data.toList ≠ []):textU (UV.l ⟨sch,false,hst,pth,true,qry,true,frg⟩) = (sch.data.toList ++ [58]) ++ (pth.data.toList ++ ((63::qry.data.toList) ++ ((35::frg.data.toList)))):=by
 have hle:sch.data.toList.isEmpty = false:=by
  cases hs:sch.data.toList with
  | nil=>exact absurd hs hne
  | cons a b=>rfl
 unfold textU UV.l
 simp only
 rw [hle]
 rfl
set_option maxHeartbeats 1000000 in
theorem text_1011 (sch hst pth qry frg T:ByteArray) (hne:sch.data.toList ≠ []) (_h1:sch.size≤1000) (_h2:hst.size≤1000) (_h3:pth.size≤1000) (_h4:qry.size≤1000) (_h5:frg.size≤1000) (hT:T.data.toList = textU (UV.l ⟨sch,false,hst,pth,true,qry,true,frg⟩)) (w:World) :
  Calls Tryz.prog 98 #[.agg #[.string sch,.bool false,.string hst,.string pth,.bool true,.string qry,.bool true,.string frg]] w fun e w'=>e = .returned (.string T)∧Below w.heap.size w w':=by
 have HT:Hid (T.data.toList = textU (UV.l ⟨sch,false,hst,pth,true,qry,true,frg⟩)):=hT
 have hse:=bempty_no sch hne
 clear hT
 go_enter Tryz.func98,Tryz.ntmps98
 go_wp2
 go_ret
 refine ⟨str_same ?_,(Below.refl _ _).alloc (Nat.le_refl _) _⟩
 rw [HT.out,text_1011_eq sch hst pth qry frg hne]
 simp only [data_app]
 simp
theorem text_1100_eq (sch hst pth qry frg:ByteArray) (hne:sch.data.toList ≠ []):textU (UV.l ⟨sch,true,hst,pth,false,qry,false,frg⟩) = (sch.data.toList ++ [58]) ++ (([47,47] ++ hst.data.toList) ++ ((pth.data.toList ++ ([] ++ [])))):=by
 have hle:sch.data.toList.isEmpty = false:=by
  cases hs:sch.data.toList with
  | nil=>exact absurd hs hne
  | cons a b=>rfl
 unfold textU UV.l
 simp only
 rw [hle]
 rfl
set_option maxHeartbeats 1000000 in
theorem text_1100 (sch hst pth qry frg T:ByteArray) (hne:sch.data.toList ≠ []) (_h1:sch.size≤1000) (_h2:hst.size≤1000) (_h3:pth.size≤1000) (_h4:qry.size≤1000) (_h5:frg.size≤1000) (hT:T.data.toList = textU (UV.l ⟨sch,true,hst,pth,false,qry,false,frg⟩)) (w:World) :
  Calls Tryz.prog 98 #[.agg #[.string sch,.bool true,.string hst,.string pth,.bool false,.string qry,.bool false,.string frg]] w fun e w'=>e = .returned (.string T)∧Below w.heap.size w w':=by
 have HT:Hid (T.data.toList = textU (UV.l ⟨sch,true,hst,pth,false,qry,false,frg⟩)):=hT
 have hse:=bempty_no sch hne
 clear hT
 go_enter Tryz.func98,Tryz.ntmps98
 go_wp2
 go_ret
 refine ⟨str_same ?_,(Below.refl _ _).alloc (Nat.le_refl _) _⟩
 rw [HT.out,text_1100_eq sch hst pth qry frg hne]
 simp only [data_app]
 simp
theorem text_1101_eq (sch hst pth qry frg:ByteArray) (hne:sch.data.toList ≠ []):textU (UV.l ⟨sch,true,hst,pth,false,qry,true,frg⟩) = (sch.data.toList ++ [58]) ++ (([47,47] ++ hst.data.toList) ++ (pth.data.toList ++ ((35::frg.data.toList)))):=by
 have hle:sch.data.toList.isEmpty = false:=by
  cases hs:sch.data.toList with
  | nil=>exact absurd hs hne
  | cons a b=>rfl
 unfold textU UV.l
 simp only
 rw [hle]
 rfl
set_option maxHeartbeats 1000000 in
theorem text_1101 (sch hst pth qry frg T:ByteArray) (hne:sch.data.toList ≠ []) (_h1:sch.size≤1000) (_h2:hst.size≤1000) (_h3:pth.size≤1000) (_h4:qry.size≤1000) (_h5:frg.size≤1000) (hT:T.data.toList = textU (UV.l ⟨sch,true,hst,pth,false,qry,true,frg⟩)) (w:World) :
  Calls Tryz.prog 98 #[.agg #[.string sch,.bool true,.string hst,.string pth,.bool false,.string qry,.bool true,.string frg]] w fun e w'=>e = .returned (.string T)∧Below w.heap.size w w':=by
 have HT:Hid (T.data.toList = textU (UV.l ⟨sch,true,hst,pth,false,qry,true,frg⟩)):=hT
 have hse:=bempty_no sch hne
 clear hT
 go_enter Tryz.func98,Tryz.ntmps98
 go_wp2
 go_ret
 refine ⟨str_same ?_,(Below.refl _ _).alloc (Nat.le_refl _) _⟩
 rw [HT.out,text_1101_eq sch hst pth qry frg hne]
 simp only [data_app]
 simp
theorem text_1110_eq (sch hst pth qry frg:ByteArray) (hne:sch.data.toList ≠ []):textU (UV.l ⟨sch,true,hst,pth,true,qry,false,frg⟩) = (sch.data.toList ++ [58]) ++ (([47,47] ++ hst.data.toList) ++ (pth.data.toList ++ ((63::(qry.data.toList ++ []))))):=by
 have hle:sch.data.toList.isEmpty = false:=by
  cases hs:sch.data.toList with
  | nil=>exact absurd hs hne
  | cons a b=>rfl
 unfold textU UV.l
 simp only
 rw [hle]
 rfl
set_option maxHeartbeats 1000000 in
theorem text_1110 (sch hst pth qry frg T:ByteArray) (hne:sch.data.toList ≠ []) (_h1:sch.size≤1000) (_h2:hst.size≤1000) (_h3:pth.size≤1000) (_h4:qry.size≤1000) (_h5:frg.size≤1000) (hT:T.data.toList = textU (UV.l ⟨sch,true,hst,pth,true,qry,false,frg⟩)) (w:World) :
  Calls Tryz.prog 98 #[.agg #[.string sch,.bool true,.string hst,.string pth,.bool true,.string qry,.bool false,.string frg]] w fun e w'=>e = .returned (.string T)∧Below w.heap.size w w':=by
 have HT:Hid (T.data.toList = textU (UV.l ⟨sch,true,hst,pth,true,qry,false,frg⟩)):=hT
 have hse:=bempty_no sch hne
 clear hT
 go_enter Tryz.func98,Tryz.ntmps98
 go_wp2
 go_ret
 refine ⟨str_same ?_,(Below.refl _ _).alloc (Nat.le_refl _) _⟩
 rw [HT.out,text_1110_eq sch hst pth qry frg hne]
 simp only [data_app]
 simp
theorem text_1111_eq (sch hst pth qry frg:ByteArray) (hne:sch.data.toList ≠ []):textU (UV.l ⟨sch,true,hst,pth,true,qry,true,frg⟩) = (sch.data.toList ++ [58]) ++ (([47,47] ++ hst.data.toList) ++ (pth.data.toList ++ ((63::qry.data.toList) ++ ((35::frg.data.toList))))):=by
 have hle:sch.data.toList.isEmpty = false:=by
  cases hs:sch.data.toList with
  | nil=>exact absurd hs hne
  | cons a b=>rfl
 unfold textU UV.l
 simp only
 rw [hle]
 rfl
set_option maxHeartbeats 1000000 in
theorem text_1111 (sch hst pth qry frg T:ByteArray) (hne:sch.data.toList ≠ []) (_h1:sch.size≤1000) (_h2:hst.size≤1000) (_h3:pth.size≤1000) (_h4:qry.size≤1000) (_h5:frg.size≤1000) (hT:T.data.toList = textU (UV.l ⟨sch,true,hst,pth,true,qry,true,frg⟩)) (w:World) :
  Calls Tryz.prog 98 #[.agg #[.string sch,.bool true,.string hst,.string pth,.bool true,.string qry,.bool true,.string frg]] w fun e w'=>e = .returned (.string T)∧Below w.heap.size w w':=by
 have HT:Hid (T.data.toList = textU (UV.l ⟨sch,true,hst,pth,true,qry,true,frg⟩)):=hT
 have hse:=bempty_no sch hne
 clear hT
 go_enter Tryz.func98,Tryz.ntmps98
 go_wp2
 go_ret
 refine ⟨str_same ?_,(Below.refl _ _).alloc (Nat.le_refl _) _⟩
 rw [HT.out,text_1111_eq sch hst pth qry frg hne]
 simp only [data_app]
 simp
theorem utext_any (u:UV) (hs:u.short 1000) (T:ByteArray) (hT:T.data.toList = textU u.l) (w:World) :
  Calls Tryz.prog 98 #[u.v] w fun e w'=>e = .returned (.string T)∧Below w.heap.size w w':=by
 obtain ⟨sch,hh,hst,pth,hq,qry,hf,frg⟩:=u
 obtain ⟨h1,h2,h3,h4,h5⟩:=hs
 simp only at h1 h2 h3 h4 h5
 by_cases hne:sch.data.toList = []
 ·obtain rfl:=bempty_yes sch hne
  cases hh <;> cases hq <;> cases hf
  ·exact text_0000 hst pth qry frg T h2 h3 h4 h5 hT w
  ·exact text_0001 hst pth qry frg T h2 h3 h4 h5 hT w
  ·exact text_0010 hst pth qry frg T h2 h3 h4 h5 hT w
  ·exact text_0011 hst pth qry frg T h2 h3 h4 h5 hT w
  ·exact text_0100 hst pth qry frg T h2 h3 h4 h5 hT w
  ·exact text_0101 hst pth qry frg T h2 h3 h4 h5 hT w
  ·exact text_0110 hst pth qry frg T h2 h3 h4 h5 hT w
  ·exact text_0111 hst pth qry frg T h2 h3 h4 h5 hT w
 ·cases hh <;> cases hq <;> cases hf
  ·exact text_1000 sch hst pth qry frg T hne h1 h2 h3 h4 h5 hT w
  ·exact text_1001 sch hst pth qry frg T hne h1 h2 h3 h4 h5 hT w
  ·exact text_1010 sch hst pth qry frg T hne h1 h2 h3 h4 h5 hT w
  ·exact text_1011 sch hst pth qry frg T hne h1 h2 h3 h4 h5 hT w
  ·exact text_1100 sch hst pth qry frg T hne h1 h2 h3 h4 h5 hT w
  ·exact text_1101 sch hst pth qry frg T hne h1 h2 h3 h4 h5 hT w
  ·exact text_1110 sch hst pth qry frg T hne h1 h2 h3 h4 h5 hT w
  ·exact text_1111 sch hst pth qry frg T hne h1 h2 h3 h4 h5 hT w
theorem pre_ss (l:List UInt8):Lib.hasPrefix l [47,47] = preSS l:=by
 match l with
 | []=>rfl
 | [a]=>simp [Lib.hasPrefix,List.isPrefixOf,preSS]
 | a::b::r=>simp [Lib.hasPrefix,List.isPrefixOf,preSS,Bool.beq_comm]
theorem ulike_any (sch hst pth qry frg:ByteArray) (hh hq hf:Bool) (w:World) :
  Calls Tryz.prog 97 #[.agg #[.string sch,.bool hh,.string hst,.string pth,.bool hq,.string qry,.bool hf,.string frg]] w fun e w'=>e = .returned (.bool (!hh && preSS pth.data.toList))∧Below w.heap.size w w':=by
 cases hh with
 | true =>
  go_enter Tryz.func97,Tryz.ntmps97
  go_wp2
  go_ret
  exact ⟨rfl,(Below.refl _ _).alloc (Nat.le_refl _) _⟩
 | false =>
  have C:=fun w=>Tryz.strings_HasPrefix pth ⟨#[47,47]⟩ w
  simp only [pre_ss] at C
  have HC:Hid (∀ w,Calls Tryz.prog 59 #[.string pth,.string ⟨#[47,47]⟩] w fun e w'=>e = .returned (.bool (preSS pth.data.toList))∧w' = w):=C
  clear C
  generalize preSS pth.data.toList = V at *
  go_enter Tryz.func97,Tryz.ntmps97
  go_wp2_with fail
  refine (HC.out _).mono ?_
  rintro e w' ⟨rfl,hw'⟩
  have hw'':=hw'.symm
  subst hw''
  clear HC
  go_wp2
  go_ret
  exact ⟨by simp,(Below.refl _ _).alloc (Nat.le_refl _) _⟩
end Go.Proofs.YtbbfcbodhmeanaaGreatDoor



namespace Go.Proofs.YtbbfcbodhmeanaaGreatDoor
open Go.RowKit
theorem strt_eq {s:ByteArray} {l:List UInt8} (h:s.data.toList = l):Value.string s = .string ⟨l.toArray⟩:=by
 subst h
 rfl
theorem ba_tail (t:ByteArray) (n:Nat) (h:t.size = n + 1):∃ (c:UInt8) (t8:ByteArray),t[n] = c∧t.extract 0 n = t8∧t8.size = n∧t.data.toList = t8.data.toList ++ [c]:=by
 have hl:t.data.toList.length = n + 1:=by rw [Array.length_toList];exact h
 refine ⟨_,_,rfl,rfl,?_,?_⟩
 ·rw [Lib.size_eq,Lib.extract_data,List.length_take];simp;omega
 ·rw [Lib.extract_data,List.drop_zero,Nat.sub_zero]
  conv=>lhs;rw [← List.take_append_drop n t.data.toList]
  rw [List.drop_eq_getElem_cons (by omega),List.drop_of_length_le (by omega)]
  rfl
theorem ba_head (t:ByteArray) (n:Nat) (h:t.size = n + 1):∃ (c:UInt8) (t8:ByteArray),t[0] = c∧t.extract 1 (n + 1) = t8∧t8.size = n∧t.data.toList = c::t8.data.toList:=by
 have hl:t.data.toList.length = n + 1:=by rw [Array.length_toList];exact h
 refine ⟨_,_,rfl,rfl,?_,?_⟩
 ·rw [Lib.size_eq,Lib.extract_data,List.length_take];simp;omega
 ·rw [Lib.extract_data,List.take_of_length_le (by rw [List.length_drop];omega)]
  conv=>lhs;rw [← List.drop_zero (l:=t.data.toList),List.drop_eq_getElem_cons (by omega)]
  rfl
theorem zero256 (w:World):(zeroValue 152).run Tryz.prog w = .ok (.agg (Array.replicate 256 (.bool false))) w:=by kernel_rfl
theorem in_set (g:Nat) (c:UInt8) (cc:Int) (e:cc = (c.toNat:Int)) (v:Bool) (w:World) (hc:w.cell? ⟨g,c.toNat,none⟩ = some (.bool v)) :
  Calls Tryz.prog 161 #[.pointer (some ⟨g,0,none⟩),.int .u8 cc] w fun e w'=>e = .returned (.bool v)∧w' = w:=by
 subst e
 have:=c.toNat_lt
 go_enter Tryz.func161,Tryz.ntmps161
 go_wp2
 go_ret
 exact ⟨rfl,rfl⟩
end Go.Proofs.YtbbfcbodhmeanaaGreatDoor


/- Texts of the walk, packed. -/
import Derived.Test.YthfkpalfopdmhaaGreatDoorW01
import Derived.Maps.OwnSet
import Derived.Maps.OwnOps
import Derived.Test.YthfkpalfopdmhaaGreatDoorW00
namespace Go.Proofs.YthfkpalfopdmhaaGreatDoor
open Go.RowKit Go.Maps
theorem law9:Keyed Tryz.prog 9:=string_keyed Tryz.underlying9
theorem QFt (w:World):(zeroValue 205).run Tryz.prog w=.ok (.agg #[]) w:=by kernel_rfl
def KW (w0 w:World) (acc:List Lit):Prop:=w.ownsMap Tryz.prog 9 (unitElem (H:=Unit)) w0.heap.size acc.length (setOf (.agg []) acc)/\Below w0.heap.size w0 w/\w0.heap.size<w.heap.size
theorem U5 {w0:World} (w:World) {ops:Array Oper} {rest:List Oper} {o:Oper} {a:Act} {Q:Exit->Act->World->Prop} {acc:List Lit} (hK0:KW w0 w acc)
  (hg:o.guard=none) (m x v:Operand) (hop:o.op=Op.insert 207 m x v) (hm:a.eval m=.map (some w0.heap.size)) (hn:acc.length<maxLen) (s:ByteArray) (hx:a.eval x=.string s) (hs:s.size<=maxLen) (hv:a.eval v=.agg #[])
  (hK:∀w',KW w0 w' (acc++[.string s.data.toList])->wpList Tryz.prog ops Q rest (a.put o.dst undef) w'):
  wpList Tryz.prog ops Q (o::rest) a w:=by
 refine wpList_plain hg fun K' hK'=>?_
 obtain⟨hown,hb,hz⟩:=hK0;obtain⟨w',hrun,r1,r2⟩:=hown.update law9 Tryz.underlying207 hn (WideMaps.keyOf_string_mk Tryz.underlying9 hs) unitElem_mk;unfold Oper.wp;simp[execOp,hop,hm,hx,hv,hrun,Result.andThen];refine hK' _ _ (hK w' ⟨?_,?_,?_⟩)
 ·rw[setOf_snoc,List.length_append];exact r1
 ·exact hb.grown r2 (by omega) (fun k hk=>by cases hk;exact Nat.le_refl _)
 ·have:=r2.size;omega
set_option maxRecDepth 100000 in
set_option maxHeartbeats 4000000 in
theorem RV (w:World):Calls Tryz.prog 194 #[] w fun e w'=>e=.returned (.map (some w.heap.size))/\KW w w' (keptTab.map Lit.string):=by
 have hmm:=@run_makeMap Tryz.prog;have h0:KW w (w.alloc (.map #[] 0)) []:=⟨World.ownsMap_made _ _ _ _,(Below.refl _ _).alloc (Nat.le_refl _) _,by simp⟩
 go_enter Tryz.func194,Tryz.ntmps194;go_wp2_with (refine U5 _ (by assumption) rfl (.tmp 1) _ _ rfl rfl (by unfold maxLen;decide) _ rfl (by unfold maxLen;decide) rfl ?_;intro w' hk)
 go_ret;refine⟨rfl,by assumption⟩
def AK (b:Bool) (w:World) (e:Ending) (w':World):Prop:=e=.returned (.bool b)/\Below w.heap.size w w'
theorem QBM (l:List UInt8):Maps.has (setOf (H:=Unit) (.agg []) (keptTab.map Lit.string)) (.string l)=JM l:=by
 rw[has_setOf _ _ _ (by intro x hx;simp only[List.mem_map]at hx;obtain⟨t,_,rfl⟩:=hx;trivial),List.any_map];rfl
set_option maxHeartbeats 2000000 in
theorem QBN (s:ByteArray) (w:World) (hs:s.size<=100000):Calls Tryz.prog 152 #[.string s] w (AK (JM s.data.toList) w):=by
 have HK:=AA (QBM s.data.toList);go_enter Tryz.func152,Tryz.ntmps152;go_wp2_with fail
 refine(RV _).mono ?_;rintro e w1 ⟨rfl,hk⟩;have HW:=AA hk;clear hk;go_wp2_with (at_lookup;refine wpList_lookup_own_unit _ rfl _ _ 207 rfl 9 205 law9 Tryz.underlying207 (QFt _) w.heap.size _ _ rfl HW.out.1 _ _ rfl (WideMaps.keyOf_string_mk Tryz.underlying9 (by unfold maxLen;omega)) ?_)
 rw[HK.out];go_wp2_with fail
 go_ret;exact⟨rfl,HW.out.2.1.alloc (Nat.le_of_lt HW.out.2.2) _⟩
theorem WN (s:ByteArray) (h:s.size=0):nameB s.data.toList=false:=by
 have:s.data.toList=[]:=List.length_eq_zero_iff.1 (by rw[E7];exact h);rw[this];rfl
theorem QD0 (s:ByteArray) (h:0<s.size):nameB s.data.toList=(decide (s.size<=16)&&Ew s[0]&&s.data.toList.all wrdB&&!JM s.data.toList):=by
 have e:=drop_at s 0 h;rw[List.drop_zero]at e;unfold nameB;rw[E7];generalize hk:JM s.data.toList=k;generalize ha:s.data.toList.all wrdB=a;rw[e];simp
set_option maxHeartbeats 4000000 in
theorem name_any (s:ByteArray) (w:World) (hs:s.size<=100000):Calls Tryz.prog 103 #[.string s] w (AK (nameB s.data.toList) w):=by
 by_cases h0:0<s.size
 ·have hE:=QD0 s h0;have he:s.toList.isEmpty=false:=by
   rw[ByteArray.toList_eq];rw[List.isEmpty_eq_false_iff];intro e;have:=E7 s;rw[e]at this;simp at this;omega
  have he2:(s.toList==[])=false:=by simpa using he
  by_cases h1:s.size<=16
  ·cases h2:Ew (s[0]'h0)with
   |true=>
    cases h3:s.data.toList.all wrdB with
    |true=>
     have HR:Hid (nameB s.data.toList=!JM s.data.toList):=AA (by rw[hE,h2,h3];simp[h1]);have HW:Hid ((ByteArray.mk (s.data.toList.takeWhile wrdB).toArray).toList==s.toList):=AA (by rw[ByteArray.toList_eq,ByteArray.toList_eq];simp only[];rw[Pg,h3]);have H2:=AA h2;clear hE h2 h3;go_enter Tryz.func103,Tryz.ntmps103;go_wp2_with fail
     refine(E0 _ _).mono ?_;rw[H2.out];rintro e w' ⟨rfl,rfl⟩;go_wp2_with fail
     refine(Jx s _ hs).mono ?_;rintro e w' ⟨rfl,rfl⟩;have hw:=HW.out;generalize ByteArray.mk (s.data.toList.takeWhile wrdB).toArray=u at *;go_wp2_with fail
     refine(QBN s _ hs).mono ?_;rintro e w1 ⟨rfl,hb⟩;go_wp2_with fail
     go_ret;exact⟨AH HR.out.symm,hb⟩
    |false=>
     have HR:Hid (nameB s.data.toList=false):=AA (by rw[hE,h2,h3];simp);have HW:Hid (((ByteArray.mk (s.data.toList.takeWhile wrdB).toArray).toList==s.toList)=false):=AA (by rw[ByteArray.toList_eq,ByteArray.toList_eq];simp only[];rw[Pg,h3]);have H2:=AA h2;clear hE h2 h3;go_enter Tryz.func103,Tryz.ntmps103;go_wp2_with fail
     refine(E0 _ _).mono ?_;rw[H2.out];rintro e w' ⟨rfl,rfl⟩;go_wp2_with fail
     refine(Jx s _ hs).mono ?_;rintro e w' ⟨rfl,rfl⟩;have hw:=HW.out;generalize ByteArray.mk (s.data.toList.takeWhile wrdB).toArray=u at *;go_wp2_with fail
     go_ret;exact⟨AH HR.out.symm,Below.refl _ _⟩
   |false=>
    have HR:Hid (nameB s.data.toList=false):=AA (by rw[hE,h2];simp);have H2:=AA h2;clear hE h2;go_enter Tryz.func103,Tryz.ntmps103;go_wp2_with fail
    refine(E0 _ _).mono ?_;rw[H2.out];rintro e w' ⟨rfl,rfl⟩;go_wp2_with fail
    go_ret;exact⟨AH HR.out.symm,Below.refl _ _⟩
  ·have HR:Hid (nameB s.data.toList=false):=AA (by rw[hE];simp[h1]);clear hE;go_enter Tryz.func103,Tryz.ntmps103;go_wp2_with fail
   go_ret;exact⟨AH HR.out.symm,Below.refl _ _⟩
 ·have hz:s.size=0:=by omega
  have HR:=AA (WN s hz);have:s.data.toList=[]:=List.length_eq_zero_iff.1 (by rw[E7];exact hz);have he:s.toList.isEmpty=true:=by rw[ByteArray.toList_eq,this];rfl
  have he2:(s.toList==[])=true:=by rw[ByteArray.toList_eq,this];rfl
  clear hz this;go_enter Tryz.func103,Tryz.ntmps103;go_wp2_with fail
  go_ret;exact⟨AH HR.out.symm,Below.refl _ _⟩
end Go.Proofs.YthfkpalfopdmhaaGreatDoor

/- Texts of the walk, packed. -/
import Derived.Test.YthfkpalfopdmhaaGreatDoorW02
import Derived.Test.YthfkpalfopdmhaaGreatDoorW04
import Derived.Test.YthfkpalfopdmhaaGreatDoorW00
namespace Go.Proofs.YthfkpalfopdmhaaGreatDoor
open Go.RowKit
theorem X9 (v:Value) (L:List Tok) (i:Int) (w:World) (h:GX w v L):Calls Tryz.prog 140 #[v,.int .i64 i] w (Lu (decide (0<=i/\i<L.length)) w):=by
 obtain⟨A,c,rfl,hc,hr⟩:=h;clear hr;by_cases h0:0<=i
 ·by_cases h1:i<L.length
  ·go_enter Tryz.func140,Tryz.ntmps140;go_wp2_with fail
   go_ret;exact⟨AH (by simp[h0,h1]),rfl⟩
  ·go_enter Tryz.func140,Tryz.ntmps140;go_wp2_with fail
   go_ret;exact⟨AH (by simp[h1]),rfl⟩
 ·go_enter Tryz.func140,Tryz.ntmps140;go_wp2_with fail
  go_ret;exact⟨AH (by simp;omega),rfl⟩
theorem PM (v:Value) (L:List Tok) (i:Int) (w:World) (h:GX w v L) (h0:0<=i) (h1:i<L.length):Calls Tryz.prog 140 #[v,.int .i64 i] w (Lu true w):=by
 have:=X9 v L i w h
 rwa [show decide (0<=i/\i<L.length)=true from by simp[h0,h1]]at this
theorem WO (v:Value) (L:List Tok) (i:Int) (w:World) (h:GX w v L) (h0:¬(0<=i/\i<L.length)):Calls Tryz.prog 140 #[v,.int .i64 i] w (Lu false w):=by
 have:=X9 v L i w h
 rwa [show decide (0<=i/\i<L.length)=false from by simpa using h0]at this
set_option maxRecDepth 100000 in
set_option maxHeartbeats 2000000 in
theorem QFu (v:Value) (L:List Tok) (i:Int) (s:ByteArray) (w:World) (h:GX w v L):Calls Tryz.prog 77 #[v,.int .i64 i,.string s] w (AK (isB L i s.data.toList) w):=by
 by_cases hi:0<=i/\i<L.length
 ·obtain⟨k,rfl⟩:∃k:Nat,i=(k:Int):=⟨i.toNat,by omega⟩
  have hk:k<L.length:=by omega
  have ha:L[k]?=some L[k]:=List.getElem?_eq_getElem hk;generalize L[k]=a at *;have HR:Hid (isB L k s.data.toList=((a.kind==1||a.kind==3)&&a.text==s.data.toList)):=AA (by unfold isB;rw[Int.toNat_natCast,ha];simp);have HH:=AA h;obtain⟨A,c,hv,hc,hr⟩:=h;obtain⟨g,rfl,hg,x0,x1,x2,x3⟩:=hr k a ha;subst hv;clear hr ha;have HT:Hid ((a.text==s.toList)=(a.text==s.data.toList)):=AA (by rw[ByteArray.toList_eq]);cases e1:(a.kind==1)with
  |true=>
   have HE:=AA e1;go_enter Tryz.func77,Tryz.ntmps77;go_wp2_with fail
   refine(PM _ L k _ HH.out (by omega) (by omega)).mono ?_;rintro e w' ⟨rfl,rfl⟩;go_wp2_with fail
   go_ret;exact⟨AH (by rw[HR.out,HT.out,HE.out];simp),(Below.refl _ _).alloc (Nat.le_refl _) _⟩
  |false=>
   have HE:=AA e1;cases e2:(a.kind==3)with
   |true=>
    have HE2:=AA e2;go_enter Tryz.func77,Tryz.ntmps77;go_wp2_with fail
    refine(PM _ L k _ HH.out (by omega) (by omega)).mono ?_;rintro e w' ⟨rfl,rfl⟩;go_wp2_with fail
    go_ret;exact⟨AH (by rw[HR.out,HT.out,HE.out,HE2.out];simp),(Below.refl _ _).alloc (Nat.le_refl _) _⟩
   |false=>
    have HE2:=AA e2;go_enter Tryz.func77,Tryz.ntmps77;go_wp2_with fail
    refine(PM _ L k _ HH.out (by omega) (by omega)).mono ?_;rintro e w' ⟨rfl,rfl⟩;go_wp2_with fail
    go_ret;exact⟨AH (by rw[HR.out,HE.out,HE2.out];simp),(Below.refl _ _).alloc (Nat.le_refl _) _⟩
 ·have HR:Hid (isB L i s.data.toList=false):=AA (by
   unfold isB;by_cases h0:0<=i
   ·rw[List.getElem?_eq_none (by omega)];simp
   ·simp[h0])
  have HH:=AA h;obtain⟨A,c,rfl,hc,hr⟩:=h;have HI:=AA hi;clear hr hi;go_enter Tryz.func77,Tryz.ntmps77;go_wp2_with fail
  refine(WO _ L i _ HH.out HI.out).mono ?_;rintro e w' ⟨rfl,rfl⟩;go_wp2_with fail
  go_ret;exact⟨AH HR.out.symm,Below.refl _ _⟩
def L6 (n:Int) (w:World) (e:Ending) (w':World):Prop:=e=.returned (.int .i64 n)/\Below w.heap.size w w'
theorem Ef {n n':Int} {w w':World} {e:Ending} (he:e=.returned (.int .i64 n')) (h:n'=n) (hb:Below w.heap.size w w'):L6 n w e w':=by
 subst h;exact⟨he,hb⟩
set_option maxRecDepth 100000 in
set_option maxHeartbeats 2000000 in
theorem IP (v:Value) (L:List Tok) (i:Int) (w:World) (h:GX w v L) (hl:L.length<=10000) (hs:Gf L):Calls Tryz.prog 187 #[v,.int .i64 i] w (L6 (AN L i) w):=by
 by_cases hi:0<=i/\i<L.length
 ·obtain⟨k,rfl⟩:∃k:Nat,i=(k:Int):=⟨i.toNat,by omega⟩
  have hk:k<L.length:=by omega
  have ha:L[k]?=some L[k]:=List.getElem?_eq_getElem hk;generalize L[k]=a at *;have HR:=AA (QBJ ha);have HH:=AA h;obtain⟨A,c,hv,hc,hr⟩:=h;obtain⟨g,rfl,hg,x0,x1,x2,x3⟩:=hr k a ha;subst hv;clear hr ha hs;go_enter Tryz.func187,Tryz.ntmps187;go_wp2_with fail
  refine(PM _ L k _ HH.out (by omega) (by omega)).mono ?_;rintro e w' ⟨rfl,rfl⟩;go_wp2_with fail
  go_ret;exact Ef rfl HR.out.symm (Below.refl _ _)
 ·have HI:=AA hi;by_cases h0:L=[]
  ·subst h0;have HH:=AA h;obtain⟨A,c,rfl,hc,hr⟩:=h;clear hr hi hs;go_enter Tryz.func187,Tryz.ntmps187;go_wp2_with fail
   refine(WO _ [] i _ HH.out HI.out).mono ?_;rintro e w' ⟨rfl,rfl⟩;go_wp2_with fail
   go_ret;exact Ef rfl (Yy i).symm (Below.refl _ _)
  ·have hpos:0<L.length:=List.length_pos_iff.2 h0;have hl0:((L.length:Int)==0)=false:=beq_eq_false_iff_ne.2 (by omega);have ha:L[L.length-1]?=some (L[L.length-1]'(by omega)):=List.getElem?_eq_getElem (by omega)
   have hsm:=hs _ (List.getElem_mem (show L.length-1<L.length by omega));generalize L[L.length-1]'(by omega)=a at *
   have HR:=AA (Yx hi ha);have HH:=AA h;obtain⟨A,c,hv,hc,hr⟩:=h;obtain⟨g,rfl,hg,x0,x1,x2,x3⟩:=hr _ a ha;subst hv;clear hr ha hs hi h0;obtain⟨n,hn⟩:∃n,L.length=n+1:=⟨L.length-1,by omega⟩
   have HN:=AA hn;rw[hn]at x0 x1 x2 x3 hl0 hc hl;rw[show n+1-1=n from rfl]at x0 x1 x2 x3;rw[show Value.slice (some ⟨g,0,none⟩) L.length c=Value.slice (some ⟨g,0,none⟩) (n+1) c from by rw[hn]]at *;clear hn hpos;go_enter Tryz.func187,Tryz.ntmps187;go_wp2_with fail
   refine(WO _ L i _ HH.out HI.out).mono ?_;rintro e w' ⟨rfl,rfl⟩;go_wp2_with fail
   go_ret;exact Ef rfl HR.out.symm ((Below.refl _ _).alloc (Nat.le_refl _) _)
end Go.Proofs.YthfkpalfopdmhaaGreatDoor

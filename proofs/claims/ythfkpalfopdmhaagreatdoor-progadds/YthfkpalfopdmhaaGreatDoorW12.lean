/- Texts of the walk, packed. -/
import Derived.Test.YthfkpalfopdmhaaGreatDoorW07
import Derived.Deep.RegionHeld3
import Derived.Deep.DrawnRows
import Derived.Test.YthfkpalfopdmhaaGreatDoorW00
namespace Go.Proofs.YthfkpalfopdmhaaGreatDoor
open Go.RowKit
def TV (x:Ex):Prop:=∀(v:Value) (w:World),Ax w v x.flat->Tabs w->Calls Tryz.prog 171 #[v] w (Br (AU true x) w)
def Kz (x:Ex):Prop:=∀(v:Value) (w:World),Ax w v x.flat->Tabs w->Calls Tryz.prog 119 #[v] w (Br (AU false x) w)
theorem NF {w:World} {g o n c:Nat} {x:Ex} (h:Ax w (.slice (some ⟨g,o,none⟩) n c) x.flat):g<w.heap.size/\w.cell? ⟨g,o,none⟩=some (.int .i64 x.top.op)/\w.cell? ⟨g,o+1,none⟩=some (.int .i64 x.top.n)/\w.cell? ⟨g,o+2,none⟩=some (.string ⟨x.top.name.toArray⟩)/\w.cell? ⟨g,o+3,none⟩=some (.int .i64 x.top.pl):=by
 obtain⟨A,c',hv,_,_,hr⟩:=h;simp only[Value.slice.injEq]at hv;obtain⟨rfl,_,_⟩:=hv;obtain⟨g',o',hA,hg,x0,x1,x2,x3⟩:=hr 0 x.top (by rw[LV];rfl);simp only[Option.some.injEq,Addr.mk.injEq]at hA;obtain⟨rfl,rfl,_⟩:=hA;simp only[Nat.zero_mul,Nat.add_zero]at x0 x1 x2 x3;exact⟨hg,x0,x1,x2,x3⟩
theorem J3 {W w1 w2:World} {a b:Nat} {u v:Value} {k:Nat} (ha:a<W.heap.size) (hb0:b<W.heap.size) (h:w1.cell? ⟨a,0,none⟩=some u/\w1.cell? ⟨b,k,none⟩=some v/\Below W.heap.size W w1) (hb:Below w1.heap.size w1 w2):
  w2.cell? ⟨a,0,none⟩=some u/\w2.cell? ⟨b,k,none⟩=some v/\Below W.heap.size W w2:=by
 have hz:=h.2.2.size;exact⟨(hb.cell (p:=⟨a,0,none⟩) (by show a<_;omega)).trans h.1,(hb.cell (p:=⟨b,k,none⟩) (by show b<_;omega)).trans h.2.1,AC h.2.2 hb⟩
theorem DN (w:World):Below w.heap.size w w.drew:=⟨rfl,rfl,rfl,Nat.le_refl _,fun _ _=>rfl⟩
theorem size_mk (l:List UInt8):(ByteArray.mk l.toArray).size=l.length:=by show l.toArray.size=_;simp
theorem CO (a b:List UInt8):(ByteArray.mk a.toArray++ByteArray.mk b.toArray)=ByteArray.mk (a++b).toArray:=by
 apply ByteArray.ext;simp
set_option maxRecDepth 100000 in
set_option maxHeartbeats 2000000 in
theorem ZJ (a:Nod) (ho:(Ex.leaf a).ok) (hs:Ho (.leaf a)):Kz (.leaf a):=by
 intro v w h ht;obtain⟨g,o,c,rfl,hc,hm,_⟩:=h.addr (M5 _);obtain⟨hg,x0,x1,x2,x3⟩:=NF h;have hsm:=hs a (by simp[Ex.flat]);have HT:=AA ht;have HK:Hid (JE a.op=0):=AA (G5 ho);have hop:=GN ho;simp only[Ex.top,Ex.flat,List.length_singleton]at *;clear h ht;cases e1:(a.op==1)with
 |true=>
  have HS:Hid (AU false (.leaf a)=Lib.itoa a.n):=AA (by simp at e1;simp[AU,e1]);go_enter Tryz.func119,Tryz.ntmps119;go_wp2_with fail
  refine(Eg _ _).mono ?_;rw[HK.out];rintro e w' ⟨rfl,rfl⟩;go_wp2_with fail
  refine(OD a.n (by omega) (by omega) _ (HT.out.alloc _)).mono ?_;rintro e w1 ⟨rfl,hb⟩;have HB:=AA (Gg hb);clear hb;go_wp2_with fail
  go_ret;exact BZ rfl HS.out.symm HB.out
 |false=>
  have HS:Hid (AU false (.leaf a)=a.name):=AA (by simp at e1;simp[AU,e1]);go_enter Tryz.func119,Tryz.ntmps119;go_wp2_with fail
  refine(Eg _ _).mono ?_;rw[HK.out];rintro e w' ⟨rfl,rfl⟩;go_wp2_with fail
  go_ret;exact BZ rfl HS.out.symm ((Below.refl _ _).alloc (Nat.le_refl _) _)
set_option maxRecDepth 100000 in
set_option maxHeartbeats 4000000 in
theorem QD3 (a:Nod) (x:Ex) (ho:(Ex.un a x).ok) (hs:Ho (.un a x)) (hz:(Ex.un a x).size<=40) (hx:TV x):Kz (.un a x):=by
 intro v w h ht;obtain⟨g,o,c,rfl,hc,hm,_⟩:=h.addr (M5 _);obtain⟨hg,x0,x1,x2,x3⟩:=NF h;have HT:=AA ht;have HK:Hid (JE a.op=1):=AA (G5 ho.1);have hop:=GN ho.1;have HL:=AA (Bt (.un a x));have HX:=AA hx;have hxl:=Ky x true (fun b hb=>hs b (by simp[Ex.flat,hb]));have hp:=GO x;have HP:Hid (Ax w (.slice (some ⟨g,o+4,none⟩) x.size (c-1)) x.flat):=AA (by
  have hq:=Ax.part (k:=1) (tq:=x.size+1) h (by omega) (by rw[HL.out];exact Nat.le_refl _);have e:=NC (x:=.un a x) (y:=x) (d:=[]) (r:=[]) rfl;rw[show 1+Ce []+x.size=x.size+1 from by simp[Ce];omega,show 1+Ce []=1 from rfl]at e;rw[e,show x.size+1-1=x.size from by omega]at hq;exact hq)
 obtain⟨op,n,name,pl⟩:=a;simp only[Ex.top]at *;obtain⟨k,rfl⟩:∃k:Nat,op=k:=⟨op.toNat,by omega⟩
 have HS:Hid (AU false (.un ⟨k,n,name,pl⟩ x)=Ar k++AU true x):=AA (by simp[AU]);have hsg:=ht.sign (k:=k) (by omega);have hsl:=NE k;have htl:=ht.lt;rw[HL.out]at hc⊢;simp only[Ex.size]at hz hc⊢;clear h ht hx;generalize Ar k=sg at *;unfold maxLen at hm;go_enter Tryz.func119,Tryz.ntmps119;go_wp2_with fail
 refine(Eg _ _).mono ?_;rw[HK.out];rintro e w' ⟨rfl,rfl⟩;go_wp2_with fail
 have HB0:Hid (Below w.heap.size w (w.alloc (.cells #[.int .i64 k,.int .i64 n,.string ⟨name.toArray⟩,.int .i64 pl] 46))):=AA ((Below.refl _ _).alloc (Nat.le_refl _) _);have y0:(w.alloc (.cells #[.int .i64 k,.int .i64 n,.string ⟨name.toArray⟩,.int .i64 pl] 46)).cell? ⟨w.heap.size,0,none⟩=some (.int .i64 k):=by simp
 have y1:(w.alloc (.cells #[.int .i64 k,.int .i64 n,.string ⟨name.toArray⟩,.int .i64 pl] 46)).cell? ⟨0,k,none⟩=some (.string ⟨sg.toArray⟩):=by rw[World.cell?_alloc_lt w _ _ (by show 0<_;omega)];exact hsg
 have hW:w.heap.size<(w.alloc (.cells #[.int .i64 k,.int .i64 n,.string ⟨name.toArray⟩,.int .i64 pl] 46)).heap.size:=by simp
 clear x0 x1 x2 x3 hsg;generalize w.alloc (.cells #[.int .i64 k,.int .i64 n,.string ⟨name.toArray⟩,.int .i64 pl] 46)=W at *;have hi0:(0:Int)<=(k:Int):=by omega
 have hi1:(k:Int)<16:=by omega
 have hi2:(1:Int)<=(x.size:Int)+1:=by omega
 have hi3:((x.size+1:Nat):Int)<=(c:Int):=by omega
 have hr1:=HP.out.on HB0.out;have hr2:=HT.out.on HB0.out;have HR1:=AA hr1;have HR2:=AA hr2;clear hr1 hr2;have h0W:0<W.heap.size:=by omega
 have hc1:¬c=1:=by omega
 have hcat1:¬(9223372036854775807<(ByteArray.mk sg.toArray).size+(ByteArray.mk (AU true x).toArray).size):=by rw[size_mk,size_mk];omega
 have hcat4:¬(9223372036854775807<sg.length+(AU true x).length):=by omega
 go_region_held3 (fun w'=>w'.cell? ⟨w.heap.size,0,none⟩=some (.int .i64 k)/\w'.cell? ⟨0,k,none⟩=some (.string ⟨sg.toArray⟩)/\Below W.heap.size W w')
  (first|exact⟨y0,y1,Below.refl _ _⟩|exact⟨y0,y1,DN _⟩|exact J3 (w1:=W.drew) hW h0W ⟨y0,y1,DN _⟩ hb|go_keep)
  (first|(go_at_call 171;refine(HX.out _ _ (HR1.out.on (DN _)) (HR2.out.on (DN _))).mono ?_;rintro e w1 ⟨rfl,hb⟩))
 go_wp2_with fail
 go_ret;exact BZ (by rw[<-CO];rfl) HS.out.symm (AC HB0.out (AC (DN _) hb))
set_option maxRecDepth 100000 in
set_option maxHeartbeats 4000000 in
theorem QBU (a:Nod) (x y:Ex) (ho:(Ex.bin a x y).ok) (hs:Ho (.bin a x y)) (hz:(Ex.bin a x y).size<=40) (hx:TV x) (hy:TV y):Kz (.bin a x y):=by
 intro v w h ht;obtain⟨g,o,c,rfl,hc,hm,_⟩:=h.addr (M5 _);obtain⟨hg,x0,x1,x2,x3⟩:=NF h;have HT:=AA ht;have HK:Hid (JE a.op=2):=AA (G5 ho.1);have hop:=GN ho.1;have HL:=AA (Bt (.bin a x y));have HX:=AA (show∀(v:Value) (w:World),Ax w v x.flat->Tabs w->Calls Tryz.prog 171 #[v] w (Br (AU true x) w)from hx);have HY:=AA (show∀(v:Value) (w:World),Ax w v y.flat->Tabs w->Calls Tryz.prog 171 #[v] w (Br (AU true y) w)from hy);have hxl:=Ky x true (fun b hb=>hs b (by simp[Ex.flat,hb]));have hyl:=Ky y true (fun b hb=>hs b (by simp[Ex.flat,hb]))
 have hp:=GO x;have hq:=GO y;obtain⟨s,hsd⟩:∃s,1+x.size=s:=⟨_,rfl⟩
 obtain⟨N,hN⟩:∃N,(Ex.bin a x y).size=N:=⟨_,rfl⟩
 have hNs:N=s+y.size:=by rw[<-hN,<-hsd];simp only[Ex.size];omega
 have HE:Hid (M7 (Ex.bin a x y).flat 1=(s:Int)):=AA (by rw[<-hsd];exact YC (x:=.bin a x y) (y:=x) (d:=[]) (r:=[y]) rfl ho.2.1);have HPX:Hid (Ax w (.slice (some ⟨g,o+4,none⟩) (s-1) (c-1)) x.flat):=AA (by
  have hq:=Ax.part (k:=1) (tq:=s) h (by omega) (by rw[HL.out,hN];omega);have e:=NC (x:=.bin a x y) (y:=x) (d:=[]) (r:=[y]) rfl;rw[show 1+Ce []+x.size=s from by rw[<-hsd];rfl,show 1+Ce []=1 from rfl]at e;rw[e]at hq;exact hq)
 have HPY:Hid (Ax w (.slice (some ⟨g,o+s*4,none⟩) (N-s) (c-s)) y.flat):=AA (by
  have hq:=Ax.part (k:=s) (tq:=N) h (by omega) (by rw[HL.out,hN];exact Nat.le_refl _);have e:=NC (x:=.bin a x y) (y:=y) (d:=[x]) (r:=[]) rfl;rw[show 1+Ce [x]=s from by rw[<-hsd];simp[Ce],<-hNs]at e;rw[e]at hq;exact hq)
 have hs2:2<=s:=by omega
 have hsN:s<N:=by omega
 have hNl:N<=40:=by omega
 rw[hN]at HL hz;have hxl2:(AU true x).length<=1000:=by omega
 have hyl2:(AU true y).length<=1000:=by omega
 clear hxl hyl hp hq hN hsd hNs hz;obtain⟨op,n,name,pl⟩:=a;simp only[Ex.top]at *;obtain⟨k,rfl⟩:∃k:Nat,op=k:=⟨op.toNat,by omega⟩
 have HS:Hid (AU false (.bin ⟨k,n,name,pl⟩ x y)=AU true x++[32]++Ar k++[32]++AU true y):=AA (by simp[AU]);have hsg:=ht.sign (k:=k) (by omega);have hsl:=NE k;have htl:=ht.lt;have HR:=AA h;rw[HL.out]at hc HR⊢;clear h ht hx hy hs ho;generalize Ar k=sg at *;generalize AU true x=ox at *;generalize AU true y=oy at *;unfold maxLen at hm;go_enter Tryz.func119,Tryz.ntmps119;go_wp2_with fail
 refine(Eg _ _).mono ?_;rw[HK.out];rintro e w' ⟨rfl,rfl⟩;go_wp2_with fail
 have HB0:Hid (Below w.heap.size w (w.alloc (.cells #[.int .i64 k,.int .i64 n,.string ⟨name.toArray⟩,.int .i64 pl] 46))):=AA ((Below.refl _ _).alloc (Nat.le_refl _) _);have y0:(w.alloc (.cells #[.int .i64 k,.int .i64 n,.string ⟨name.toArray⟩,.int .i64 pl] 46)).cell? ⟨w.heap.size,0,none⟩=some (.int .i64 k):=by simp
 have y1:(w.alloc (.cells #[.int .i64 k,.int .i64 n,.string ⟨name.toArray⟩,.int .i64 pl] 46)).cell? ⟨0,k,none⟩=some (.string ⟨sg.toArray⟩):=by rw[World.cell?_alloc_lt w _ _ (by show 0<_;omega)];exact hsg
 have hW:w.heap.size<(w.alloc (.cells #[.int .i64 k,.int .i64 n,.string ⟨name.toArray⟩,.int .i64 pl] 46)).heap.size:=by simp
 clear x0 x1 x2 x3 hsg;generalize w.alloc (.cells #[.int .i64 k,.int .i64 n,.string ⟨name.toArray⟩,.int .i64 pl] 46)=W at *;refine(M8 _ _ 1 _ (HR.out.on HB0.out) (by rw[HL.out];omega)).mono ?_;rw[HE.out];rintro e w' ⟨rfl,rfl⟩;go_wp2_with fail
 have HRX:=AA (HPX.out.on HB0.out);have HRY:=AA (HPY.out.on HB0.out);have HRT:=AA (HT.out.on HB0.out);have hi0:(0:Int)<=(k:Int):=by omega
 have hi1:(k:Int)<16:=by omega
 have h0W:0<W.heap.size:=by omega
 have hc1:¬c=1:=by omega
 have hc2:¬c=s:=by omega
 have hi2:(1:Int)<=(s:Int):=by omega
 have hi3:(s:Int)<=(c:Int):=by omega
 have hi4:(s:Int)<=(N:Int):=by omega
 have hi5:(N:Int)<=(c:Int):=by omega
 have hi6:(0:Int)<=(s:Int):=by omega
 have hcat1:¬(9223372036854775807<ox.length+1):=by omega
 have hcat2:¬(9223372036854775807<ox.length+1+sg.length):=by omega
 have hcat3:¬(9223372036854775807<ox.length+1+sg.length+1):=by omega
 have hcat4:¬(9223372036854775807<ox.length+1+sg.length+1+oy.length):=by omega
 go_region_held3 (fun w'=>w'.cell? ⟨w.heap.size,0,none⟩=some (.int .i64 k)/\w'.cell? ⟨0,k,none⟩=some (.string ⟨sg.toArray⟩)/\Below W.heap.size W w')
  (first|exact⟨y0,y1,Below.refl _ _⟩|exact⟨y0,y1,DN _⟩|exact J3 (w1:=W.drew) hW h0W ⟨y0,y1,DN _⟩ hb|exact J3 hW h0W (J3 (w1:=W.drew) hW h0W ⟨y0,y1,DN _⟩ hb) hb2)
  (
   first
   |(go_at_call 171;refine(HY.out _ _ (HRY.out.on (AC (DN _) hb)) (HRT.out.on (AC (DN _) hb))).mono ?_;rintro e w2 ⟨rfl,hb2⟩)
   |(go_at_call 171;refine(HX.out _ _ (HRX.out.on (DN _)) (HRT.out.on (DN _))).mono ?_;rintro e w1 ⟨rfl,hb⟩))
 all_goals
  go_wp2_with fail
  go_ret;exact BZ (by rw[<-CO,<-CO,<-CO,<-CO];rfl) HS.out.symm (AC HB0.out (AC (DN _) (AC hb hb2)))
set_option maxRecDepth 100000 in
set_option maxHeartbeats 2000000 in
theorem MC (x:Ex) (ho:x.ok) (hs:Ho x) (hz:x.size<=40) (hx:Kz x):TV x:=by
 intro v w h ht;obtain⟨g,o,c,rfl,hc,hm,_⟩:=h.addr (M5 _);obtain⟨hg,x0,x1,x2,x3⟩:=NF h;have HR:=AA h;have HT:=AA ht;have HX:=AA (show∀(v:Value) (w:World),Ax w v x.flat->Tabs w->Calls Tryz.prog 119 #[v] w (Br (AU false x) w)from hx);have hl:=Ky x false hs;have hp:=GO x;have HK:=AA (G5 (YB ho).2);rw[Bt]at hc HR⊢;clear h ht hx;generalize hsz:x.size=N at *;clear hsz;cases x with
 |leaf a=>
  have HS:Hid (AU true (.leaf a)=AU false (.leaf a)):=AA rfl;simp only[Ex.top,Ex.kids,List.length_nil]at *;go_enter Tryz.func171,Tryz.ntmps171;go_wp2_with fail
  refine(Eg _ _).mono ?_;rw[HK.out];rintro e w' ⟨rfl,rfl⟩;go_wp2_with fail
  refine(HX.out _ _ HR.out HT.out).mono ?_;rintro e w1 ⟨rfl,hb⟩;go_wp2_with fail
  go_ret;exact BZ rfl HS.out.symm hb
 |un a y=>
  have HS:Hid (AU true (.un a y)=AU false (.un a y)):=AA rfl;simp only[Ex.top,Ex.kids,List.length_cons,List.length_nil]at *;go_enter Tryz.func171,Tryz.ntmps171;go_wp2_with fail
  refine(Eg _ _).mono ?_;rw[HK.out];rintro e w' ⟨rfl,rfl⟩;go_wp2_with fail
  refine(HX.out _ _ HR.out HT.out).mono ?_;rintro e w1 ⟨rfl,hb⟩;go_wp2_with fail
  go_ret;exact BZ rfl HS.out.symm hb
 |bin a y z=>
  have HS:Hid (AU true (.bin a y z)=[40]++AU false (.bin a y z)++[41]):=AA (by simp[AU]);simp only[Ex.top,Ex.kids,List.length_cons,List.length_nil]at *;generalize AU false (.bin a y z)=l at *;generalize AU true (.bin a y z)=l2 at *;go_enter Tryz.func171,Tryz.ntmps171;go_wp2_with fail
  refine(Eg _ _).mono ?_;rw[HK.out];rintro e w' ⟨rfl,rfl⟩;go_wp2_with fail
  refine(HX.out _ _ HR.out HT.out).mono ?_;rintro e w1 ⟨rfl,hb⟩;go_wp2_with fail
  go_ret;exact BZ (by rw[<-CO,<-CO];rfl) HS.out.symm hb
theorem OE {x y:Ex} (h:Ho x) (hy:y∈x.kids):Ho y:=by
 intro a ha;refine h a ?_;rw[LV];exact List.mem_cons_of_mem _ (List.mem_flatMap.2 ⟨y,hy,ha⟩)
theorem ZK:∀(n:Nat) (x:Ex),x.size<=n->n<=40->x.ok->Ho x->Kz x:=by
 intro n
 induction n with
 |zero=>intro x h;have:=GO x;omega
 |succ n ih=>
  intro x hz hn ho hs;cases x with
  |leaf a=>exact ZJ a ho hs
  |un a y=>
   simp only[Ex.size]at hz;have hy:Ho y:=OE hs (by simp[Ex.kids]);exact QD3 a y ho hs (by simp only[Ex.size];omega) (MC y ho.2 hy (by omega) (ih y (by omega) (by omega) ho.2 hy))
  |bin a y z=>
   simp only[Ex.size]at hz;have p1:=GO y;have p2:=GO z;have hy:Ho y:=OE hs (by simp[Ex.kids]);have hz':Ho z:=OE hs (by simp[Ex.kids]);exact QBU a y z ho hs (by simp only[Ex.size];omega) (MC y ho.2.1 hy (by omega) (ih y (by omega) (by omega) ho.2.1 hy)) (MC z ho.2.2 hz' (by omega) (ih z (by omega) (by omega) ho.2.2 hz'))
theorem ZL {a:Nod} (h:CW a=true):a.name.length<=16/\0<=a.n/\a.n<=4294967296:=by
 unfold CW at h;simp only[Bool.and_eq_true,decide_eq_true_eq]at h;obtain⟨_,h⟩:=h;split at h
 ·simp only[Bool.and_eq_true,decide_eq_true_eq,List.isEmpty_iff]at h;rw[h.2];simp;omega
 ·split at h
  ·simp only[Bool.and_eq_true,decide_eq_true_eq,nameB]at h;omega
  ·simp only[Bool.and_eq_true,decide_eq_true_eq,List.isEmpty_iff]at h;rw[h.2];simp;omega
theorem OF {x:Ex} (h:x.flat.all CW=true):Ho x:=by
 intro a ha;exact ZL (List.all_eq_true.1 h a ha)
def CL (L:List Nod):List UInt8:=match Ft L with
 |some x=>if Bm L=true then AU false x else[]
 |none=>[]
def QBV (L:List Nod):Nat:=match Ft L with
 |some x=>if Bm L=true then x.deep else 0
 |none=>0
theorem VD {L:List Nod} (h:Bm L=false):CL L=[]:=by
 unfold CL;cases Ft L<;>simp[h]
set_option maxRecDepth 100000 in
set_option maxHeartbeats 2000000 in
theorem QB (v:Value) (L:List Nod) (w:World) (h:Ax w v L) (hl:L.length<=10000) (hs:Ej L) (ht:Tabs w):Calls Tryz.prog 60 #[v] w (Br (CL L) w):=by
 have HR:=AA h;have HS:=AA hs;have HT:=AA ht;clear h hs ht;cases hr:Bm L with
 |false=>
  have HQ:=AA (VD hr);have HH:=AA hr;clear hr;go_enter Tryz.func60,Tryz.ntmps60;go_wp2_with fail
  refine(JU v L _ HR.out hl HS.out).mono ?_;rw[HH.out];rintro e w1 ⟨rfl,hb⟩;go_wp2_with fail
  go_ret;exact BZ (l':=[]) rfl HQ.out.symm hb
 |true=>
  obtain⟨x,hw,ho,rfl,h40,hall,hd⟩:=MB hr;have HQ:Hid (CL x.flat=AU false x):=AA (by unfold CL;rw[hw];simp[hr]);have HH:=AA hr;have HX:=AA (show∀(v:Value) (w:World),Ax w v x.flat->Tabs w->Calls Tryz.prog 119 #[v] w (Br (AU false x) w)from ZK 40 x (by rw[<-Bt];exact h40) (Nat.le_refl _) ho (OF hall));clear hr hw hall;go_enter Tryz.func60,Tryz.ntmps60;go_wp2_with fail
  refine(JU v x.flat _ HR.out hl HS.out).mono ?_;rw[HH.out];rintro e w1 ⟨rfl,hb⟩;have HB:=AA hb;clear hb;go_wp2_with fail
  refine(HX.out v _ (HR.out.on HB.out) (HT.out.on HB.out)).mono ?_;rintro e w2 ⟨rfl,hb⟩;go_wp2_with fail
  go_ret;exact BZ rfl HQ.out.symm (AC HB.out hb)
end Go.Proofs.YthfkpalfopdmhaaGreatDoor

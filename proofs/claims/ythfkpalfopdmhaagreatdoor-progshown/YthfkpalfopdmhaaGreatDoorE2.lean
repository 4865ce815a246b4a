/- Texts of the walk, packed. -/
import Derived.Test.YthfkpalfopdmhaaGreatDoorX09
import Derived.Test.YthfkpalfopdmhaaGreatDoorX40
import Derived.Test.YthfkpalfopdmhaaGreatDoorX44
import Derived.Test.YthfkpalfopdmhaaGreatDoorX46
import Derived.Test.YthfkpalfopdmhaaGreatDoorX47
import Derived.Test.YthfkpalfopdmhaaGreatDoorX00
import Derived.Test.YthfkpalfopdmhaaGreatDoorE1
namespace Go.Proofs.YthfkpalfopdmhaaGreatDoor
open Go.RowKit
def XO (w:World) (e:Ending) (w':World):Prop:=e=.returned (.bool true)/\Below w.heap.size w w'
structure Ov (p:Prg):Prop where
 nl:p.lines.length<=10000
 lines:∀l∈p.lines,l.length<=10000
 nv:p.vols.length<=10000
 nk:p.locks.length<=10000
 nt:p.threads.length<=10000
 threads:∀t∈p.threads,t.regs.length<=10000
 nr:p.recs.length<=10000
 recs:∀t∈p.recs,t.regs.length<=10000
 nc:p.claims.length<=10000
theorem QCV {x:Stm} (h:Dy x=true):x.e.length<=10000/\x.f.length<=10000:=by
 have:=SA h;exact⟨this.2.2.1,this.2.2.2.1⟩
theorem OI {l:List Cel} {m:Int} (h:l.all (Aw m)=true):∀c∈l,FI c:=fun c hc=>by
 have:=List.all_eq_true.1 h c hc;unfold Aw at this;simp only[Bool.and_eq_true,decide_eq_true_eq]at this;have hn:=EO this.1.1.1;unfold FI;omega
theorem SG {l:List Thr} {b:Bool} (h:l.all (Bh b)=true) (hc:∀t∈l,t.regs.length<=10000):(∀t∈l,D9 t)/\∀t∈l,Ia t:=by
 have key:∀t∈l,D9 t/\Ia t:=fun t ht=>by
  have:=List.all_eq_true.1 h t ht;unfold Bh at this;simp only[Bool.and_eq_true]at this;obtain⟨⟨⟨h1,_⟩,h3⟩,h4⟩:=this;have hn:t.name.length<=100000:=by
   cases b with
   |true=>exact Nat.le_trans (EO h1) (by decide)
   |false=>
    have h1':t.name.isEmpty=true:=h1;rw[List.isEmpty_iff]at h1';rw[h1'];exact Nat.zero_le _
  have hb:t.body.length<=40/\t.body.all Dy=true:=by
   unfold CH at h3;simp only[Bool.and_eq_true,decide_eq_true_eq]at h3;exact h3.1
  exact⟨⟨hn,fun r hr=>Nat.le_trans (EO (List.all_eq_true.1 h4 r hr)) (by decide),hc t ht,NT h3,by omega⟩,hc t ht,by omega,fun y hy=>QCV (List.all_eq_true.1 hb.2 y hy)⟩
 exact⟨fun t ht=>(key t ht).1,fun t ht=>(key t ht).2⟩
theorem Jq {p:Prg} (h:BP p=true) (hc:Ov p):IL p/\Lc p:=by
 unfold BP at h;simp only[Bool.and_eq_true,decide_eq_true_eq]at h;obtain⟨⟨⟨⟨⟨⟨h1,h2⟩,h3⟩,h4⟩,h5⟩,h6⟩,_⟩:=h;have t1:=SG h5 hc.threads;have t2:=SG h6 hc.recs;have hcl:∀c∈p.claims,Fa c.e/\c.e.length<=10000:=fun c hc'=>by
  have:=List.all_eq_true.1 h2 c hc';unfold Ef at this;simp only[Bool.and_eq_true]at this;exact⟨(I6 this.2).2,(I6 this.2).1⟩
 refine⟨⟨hc.nl,fun l hl=>⟨hc.lines l hl,?_⟩,hc.nv,OI h3,hc.nk,OI h4,hc.nt,t1.1,hc.nr,t2.1,hc.nc,hcl⟩,⟨hc.nl,hc.lines,hc.nv,hc.nk,hc.nt,t1.2,hc.nr,t2.2,hc.nc,fun c hc'=>(hcl c hc').2⟩⟩;have:=List.all_eq_true.1 h1 l hl;unfold EC at this;simp only[Bool.and_eq_true]at this;exact OI this.2
theorem NW {s:List UInt8} {T:List Tok} {r:RS Prg} (h:AS s 0=.fine T) (hl:s.length<=4000) (hr:GX T (T.length+1)=some r):Bm s=Rj r:=by
 unfold Bm;rw[if_neg (by omega),h,if_pos (show(Found.fine T).err=0 from rfl)];show Rj ((GX T (T.length+1)).getD (.bad 0 0))=_;rw[hr];rfl
theorem AK {c:UInt8} {r r':List UInt8} {a:Nat} {k n:Int} {t:List UInt8} {T:List Tok} (h:Ag (c::r)=⟨0,k,t,n⟩) (hb:Es c=false) (hm:EF (c::r)=false) (hl:(c::r).drop t.length=r') (hr:AS r' (a+t.length)=.fine T):AS (c::r) a=.fine (⟨k,t,n,a⟩::T):=by
 rw[Gj r a hb hm (by rw[h]),h];simp only;rw[hl,hr,O0];rfl
abbrev tx1:List UInt8:=[108,105,110,101,32,97,32,61,32,49,44,32,98,59,32,108,111,99,107,32,109,59,32,116,104,114,101,97,100,32,116,32,123,32,114,101,103,32,114,59,32,108,111,97,100,32,114,32,61,32,97,59,32,125,32,97,108,119,97,121,115,32,97,32,61,61,32,48,59]
theorem QGu:AS [108,105,110,101,32,97,32,61,32,49,44,32,98,59,32,108,111,99,107,32,109,59,32,116,104,114,101,97,100,32,116,32,123,32,114,101,103,32,114,59,32,108,111,97,100,32,114,32,61,32,97,59,32,125,32,97,108,119,97,121,115,32,97,32,61,61,32,48,59] 0=.fine [⟨1,[108,105,110,101],0,0⟩,⟨1,[97],0,5⟩,⟨3,[61],0,7⟩,⟨2,[49],1,9⟩,⟨3,[44],0,10⟩,⟨1,[98],0,12⟩,⟨3,[59],0,13⟩,⟨1,[108,111,99,107],0,15⟩,⟨1,[109],0,20⟩,⟨3,[59],0,21⟩,⟨1,[116,104,114,101,97,100],0,23⟩,⟨1,[116],0,30⟩,⟨3,[123],0,32⟩,⟨1,[114,101,103],0,34⟩,⟨1,[114],0,38⟩,⟨3,[59],0,39⟩,⟨1,[108,111,97,100],0,41⟩,⟨1,[114],0,46⟩,⟨3,[61],0,48⟩,⟨1,[97],0,50⟩,⟨3,[59],0,51⟩,⟨3,[125],0,53⟩,⟨1,[97,108,119,97,121,115],0,55⟩,⟨1,[97],0,62⟩,⟨3,[61,61],0,64⟩,⟨2,[48],0,67⟩,⟨3,[59],0,68⟩]:=by
 repeat(first|refine(AU _ _ (by decide)).trans ?_|refine AK (by decide+kernel) rfl rfl rfl ?_)
 rfl
abbrev tx2:List UInt8:=[118,111,108,32,120,59,32,108,105,110,101,32,97,59]
theorem QG0:AS [118,111,108,32,120,59,32,108,105,110,101,32,97,59] 0=.fine [⟨1,[118,111,108],0,0⟩,⟨1,[120],0,4⟩,⟨3,[59],0,5⟩,⟨1,[108,105,110,101],0,7⟩,⟨1,[97],0,12⟩,⟨3,[59],0,13⟩]:=by
 repeat(first|refine(AU _ _ (by decide)).trans ?_|refine AK (by decide+kernel) rfl rfl rfl ?_)
 rfl
abbrev tx3:List UInt8:=[116,104,114,101,97,100,32,116,32,123,32,114,101,103,32,114,32,108,111,97,100,32,114,32,61,32,97,59,32,125]
theorem QG5:AS [116,104,114,101,97,100,32,116,32,123,32,114,101,103,32,114,32,108,111,97,100,32,114,32,61,32,97,59,32,125] 0=.fine [⟨1,[116,104,114,101,97,100],0,0⟩,⟨1,[116],0,7⟩,⟨3,[123],0,9⟩,⟨1,[114,101,103],0,11⟩,⟨1,[114],0,15⟩,⟨1,[108,111,97,100],0,17⟩,⟨1,[114],0,22⟩,⟨3,[61],0,24⟩,⟨1,[97],0,26⟩,⟨3,[59],0,27⟩,⟨3,[125],0,29⟩]:=by
 repeat(first|refine(AU _ _ (by decide)).trans ?_|refine AK (by decide+kernel) rfl rfl rfl ?_)
 rfl
abbrev tx4:List UInt8:=[108,105,110,101,32,97]
theorem QG9:AS [108,105,110,101,32,97] 0=.fine [⟨1,[108,105,110,101],0,0⟩,⟨1,[97],0,5⟩]:=by
 repeat(first|refine(AU _ _ (by decide)).trans ?_|refine AK (by decide+kernel) rfl rfl rfl ?_)
 rfl
abbrev tx5:List UInt8:=[114,101,99,111,118,101,114,32,123,32,125,32,114,101,99,111,118,101,114,32,123,32,125]
theorem QHD:AS [114,101,99,111,118,101,114,32,123,32,125,32,114,101,99,111,118,101,114,32,123,32,125] 0=.fine [⟨1,[114,101,99,111,118,101,114],0,0⟩,⟨3,[123],0,8⟩,⟨3,[125],0,10⟩,⟨1,[114,101,99,111,118,101,114],0,12⟩,⟨3,[123],0,20⟩,⟨3,[125],0,22⟩]:=by
 repeat(first|refine(AU _ _ (by decide)).trans ?_|refine AK (by decide+kernel) rfl rfl rfl ?_)
 rfl
def wantP:Prg:=⟨[[⟨[97],1,5⟩,⟨[98],0,12⟩]],[],[⟨[109],0,20⟩],[⟨[116],[[114]],[⟨2,[114],[97],[],[],0,0,0,41⟩],30⟩],[],[⟨[⟨10,0,[],64⟩,⟨2,0,[97],62⟩,⟨1,0,[],67⟩],55⟩]⟩
def lockP:Prg:=⟨[],[],[⟨[],0,0⟩],[],[],[]⟩
theorem fv1:Bm tx1=⟨wantP,0,0⟩:=NW (r:=.ok wantP 27) QGu (by decide) (by kernel_rfl)
theorem fv2:Bm tx2=⟨noPg,5,7⟩:=NW (r:=.bad 5 7) QG0 (by decide) (by kernel_rfl)
theorem fv3:Bm tx3=⟨noPg,5,17⟩:=NW (r:=.bad 5 17) QG5 (by decide) (by kernel_rfl)
theorem fv4:Bm tx4=⟨noPg,6,6⟩:=NW (r:=.bad 6 6) QG9 (by decide) (by kernel_rfl)
theorem fv5:Bm tx5=⟨noPg,5,12⟩:=NW (r:=.bad 5 12) QHD (by decide) (by kernel_rfl)
theorem fp1 (w:World) (ht:Tabs w):Calls Tryz.prog 10 #[.string ⟨tx1.toArray⟩] w (LZ ⟨wantP,0,0⟩ w):=by
 have:=MH ⟨tx1.toArray⟩ w ht
 rwa [show Bm (ByteArray.mk tx1.toArray).data.toList=⟨wantP,0,0⟩from fv1]at this
theorem fp2 (w:World) (ht:Tabs w):Calls Tryz.prog 10 #[.string ⟨tx2.toArray⟩] w (LZ ⟨noPg,5,7⟩ w):=by
 have:=MH ⟨tx2.toArray⟩ w ht
 rwa [show Bm (ByteArray.mk tx2.toArray).data.toList=⟨noPg,5,7⟩from fv2]at this
theorem fp3 (w:World) (ht:Tabs w):Calls Tryz.prog 10 #[.string ⟨tx3.toArray⟩] w (LZ ⟨noPg,5,17⟩ w):=by
 have:=MH ⟨tx3.toArray⟩ w ht
 rwa [show Bm (ByteArray.mk tx3.toArray).data.toList=⟨noPg,5,17⟩from fv3]at this
theorem fp4 (w:World) (ht:Tabs w):Calls Tryz.prog 10 #[.string ⟨tx4.toArray⟩] w (LZ ⟨noPg,6,6⟩ w):=by
 have:=MH ⟨tx4.toArray⟩ w ht
 rwa [show Bm (ByteArray.mk tx4.toArray).data.toList=⟨noPg,6,6⟩from fv4]at this
theorem fp5 (w:World) (ht:Tabs w):Calls Tryz.prog 10 #[.string ⟨tx5.toArray⟩] w (LZ ⟨noPg,5,12⟩ w):=by
 have:=MH ⟨tx5.toArray⟩ w ht
 rwa [show Bm (ByteArray.mk tx5.toArray).data.toList=⟨noPg,5,12⟩from fv5]at this
theorem UD:BP wantP=true:=by decide+kernel
theorem QEZ:Ov wantP:=⟨by decide,by decide,by decide,by decide,by decide,by decide,by decide,by decide,by decide⟩
theorem X9:IL wantP:=(Jq UD QEZ).1
theorem CW:Lc wantP:=(Jq UD QEZ).2
theorem QCW:BP (Cm wantP)=true:=XA UD
theorem QEa:Ov (Cm wantP):=⟨by decide,by decide,by decide,by decide,by decide,by decide,by decide,by decide,by decide⟩
theorem QGb:IL (Cm wantP):=(Jq QCW QEa).1
theorem Em:Lc (Cm wantP):=(Jq QCW QEa).2
theorem QHE:IL lockP:=⟨by decide,fun l h=>(by cases h),by decide,fun c h=>(by cases h),by decide,fun c h=>(by simp[lockP]at h;subst h;exact Nat.zero_le _),by decide,fun t h=>(by cases h),by decide,fun t h=>(by cases h),by decide,fun c h=>(by cases h)⟩
theorem fs1 {w:World} {B:Nat} {v:Pv} (h:CP w B v wantP) (ht:Tabs w):Calls Tryz.prog 18 #[DU v] w (CE [108,105,110,101,32,97,32,61,32,49,44,32,98,59,10,108,111,99,107,32,109,59,10,116,104,114,101,97,100,32,116,32,123,10,32,32,114,101,103,32,114,59,10,32,32,108,111,97,100,32,114,32,61,32,97,59,10,125,10,97,108,119,97,121,115,32,97,32,61,61,32,48,59,10] w):=by
 have:=QCH h X9 ht (by decide+kernel)
 rwa [show Ek wantP=[108,105,110,101,32,97,32,61,32,49,44,32,98,59,10,108,111,99,107,32,109,59,10,116,104,114,101,97,100,32,116,32,123,10,32,32,114,101,103,32,114,59,10,32,32,108,111,97,100,32,114,32,61,32,97,59,10,125,10,97,108,119,97,121,115,32,97,32,61,61,32,48,59,10]from by decide+kernel]at this
theorem fr1 {w:World} {B:Nat} {v:Pv} (h:CP w B v wantP) (ht:Tabs w):Calls Tryz.prog 16 #[DU v] w (AN true w):=by
 have:=Tz h X9 ht
 rwa [UD]at this
theorem fr2 {w:World} {B:Nat} {v:Pv} (h:CP w B v lockP) (ht:Tabs w):Calls Tryz.prog 16 #[DU v] w (AN false w):=by
 have:=Tz h QHE ht
 rwa [show BP lockP=false from by decide+kernel]at this
theorem fm1 {w:World} {B B':Nat} {v u:Pv} (h:CP w B v wantP) (k:CP w B' u (Cm wantP)):Calls Tryz.prog 20 #[DU v,DU u] w (AN true w):=by
 have:=X4 h k X9
 rwa [show Gw false wantP (Cm wantP)=true from by decide+kernel]at this
theorem fm2 {w:World} {B B':Nat} {v u:Pv} (h:CP w B v wantP) (k:CP w B' u noPg):Calls Tryz.prog 20 #[DU v,DU u] w (AN false w):=by
 have:=X4 h k X9
 rwa [show Gw false wantP noPg=false from by decide+kernel]at this
theorem UG {w:World} {B B':Nat} {v u:Pv} (h:CP w B v (Cm wantP)) (k:CP w B' u (Cm (Cm wantP))):Calls Tryz.prog 12 #[DU v,DU u,.bool true] w (AN true w):=by
 have:=QGn true h k QGb
 rwa [show Gw true (Cm wantP) (Cm (Cm wantP))=true from by decide+kernel]at this
theorem SH {w:World} {B:Nat} {v:Pv} (h:CP w B v wantP):∃g1 m1 gi mi m2 A2 A3 m3 g4 m4 AR mR AB mB A5 m5 A6 m6,
  v=⟨.slice (some ⟨g1,0,none⟩) 1 m1,.slice A2 0 m2,.slice A3 1 m3,.slice (some ⟨g4,0,none⟩) 1 m4,.slice A5 0 m5,.slice A6 1 m6⟩/\
  w.cell? ⟨g1,0,none⟩=some (.slice (some ⟨gi,0,none⟩) 2 mi)/\w.cell? ⟨gi,1,none⟩=some (.int .i64 1)/\w.cell? ⟨gi,3,none⟩=some (.string ⟨#[98]⟩)/\
  w.cell? ⟨g4,0,none⟩=some (.string ⟨#[116]⟩)/\w.cell? ⟨g4,1,none⟩=some (.slice AR 1 mR)/\w.cell? ⟨g4,2,none⟩=some (.slice AB 1 mB):=by
 obtain⟨v1,v2,v3,v4,v5,v6⟩:=v;obtain⟨⟨K1,hK1,hm1⟩,hC2,hC3,⟨K4,hK4,hm4⟩,⟨K5,hK5,hm5⟩,⟨K6,hK6,hm6⟩⟩:=h;have l1:K1.length=1:=by have:=congrArg List.length hm1;rw[List.length_map]at this;exact this
 have l4:K4.length=1:=by have:=congrArg List.length hm4;rw[List.length_map]at this;exact this
 have l5:K5.length=0:=by have:=congrArg List.length hm5;rw[List.length_map]at this;exact this
 have l6:K6.length=1:=by have:=congrArg List.length hm6;rw[List.length_map]at this;exact this
 obtain⟨x,rfl⟩:=List.length_eq_one_iff.1 l1;obtain⟨y,rfl⟩:=List.length_eq_one_iff.1 l4;obtain⟨A1,m1,hv1,_,_,r1⟩:=hK1.reads;obtain⟨A4,m4,hv4,_,_,r4⟩:=hK4.reads;obtain⟨A2,m2,hv2,_⟩:=hC2.reads;obtain⟨A3,m3,hv3,_⟩:=hC3.reads;obtain⟨A5,m5,hv5,_⟩:=hK5.reads;obtain⟨A6,m6,hv6,_⟩:=hK6.reads;obtain⟨g1,rfl,_,_,c1⟩:=r1 0 x rfl;obtain⟨g4,rfl,_,_,d0,d1,d2,_⟩:=r4 0 y rfl;have hx:x.l=[⟨[97],1,5⟩,⟨[98],0,12⟩]:=by simpa[wantP]using hm1
 have hy:y.t=⟨[116],[[114]],[⟨2,[114],[97],[],[],0,0,0,41⟩],30⟩:=by simpa[wantP]using hm4
 have sx:=hK1.sub x (by simp);rw[hx]at sx;obtain⟨Ai,mi,hvi,_,_,ri⟩:=sx.reads;obtain⟨gi,rfl,_,_,_,i1,_⟩:=ri 0 _ rfl;obtain⟨gi',hg',_,_,j0,_,_⟩:=ri 1 _ rfl;cases hg';have sy:=hK4.sub y (by simp);rw[hy]at sy d0;obtain⟨AR,mR,hvR,_⟩:=sy.1.reads;obtain⟨AB,mB,hvB⟩:=sy.2.slice;simp only at hv1 hv2 hv3 hv4 hv5 hv6;refine⟨g1,m1,gi,mi,m2,A2,A3,m3,g4,m4,AR,mR,AB,mB,A5,m5,A6,m6,?_,?_,i1,j0,d0,?_,?_⟩
 ·rw[hv1,hv2,hv3,hv4,hv5,hv6,l5,l6];rfl
 ·rw[c1,hvi];rfl
 ·rw[d1,hvR];rfl
 ·rw[d2,hvB];rfl
theorem QCX (w:World):CP (w.alloc (.cells #[.string ⟨#[]⟩,.int .i64 0,.int .i64 0] 48)) 0 ⟨.slice none 0 0,.slice none 0 0,.slice (some ⟨w.heap.size,0,none⟩) 1 1,.slice none 0 0,.slice none 0 0,.slice none 0 0⟩ lockP:=
 ⟨QI _ _,Ht _ _,⟨rfl,.inr ⟨w.heap.size,1,#[.string ⟨#[]⟩,.int .i64 0,.int .i64 0],rfl,Nat.zero_le _,heap_alloc_new w _,Nat.le_refl _,by decide,rfl,rfl⟩⟩,Jf _ _,Jf _ _,QJ _ _⟩
theorem QCZ {s:List UInt8} (h:4000<s.length):Bm s=⟨noPg,2,4000⟩:=by unfold Bm;rw[if_pos h]
def AV:List (List Nat):=[[],[0],[1],[2],[3,2],[4,2],[5,2],[6,2],[7,2],[8,2],[9,2],[2,10],[11,2],[12],[13,12],[14,12],[15,12],[16,12],[17,12],[18,12],[19,12],[12,20],[21,12],[22],[23,22],[24,22],[25,22],[26,22],[27,22],[22,28],[29,22],[30],[31,30],[32,30],[33,30],[34,30],[35,30],[36,30],[30,37],[38,30],[39],[40,39],[41,39],[42,39],[43,39],[44,39],[45,39],[39,46],[47,39],[48],[49,48,48],[50,48],[48,51],[52,50],[53],[54,53],[53,55],[56,53],[57],[58,57],[57,59],[60,57],[61],[62,61],[61,63],[64,61],[65],[66,65],[65,67],[68,65],[69],[70,69],[69,71],[72,69],[73],[74,73],[73,75],[76,73],[77],[78,77],[77,79],[80,77],[81],[82,81],[81,83],[84,81],[85],[86,85,85],[85,87],[88,87],[89],[90,89],[91,89],[92,89,89],[93,89],[89,94],[95,93],[96],[96],[98,96,96],[97,99,99,96],[96,100],[101,100],[102],[102],[103,104,102,102],[105,102],[102,106],[107,105],[108],[109,108,108],[108],[111,110,108],[112,112,108],[110,113,113,108],[108,114],[115,114,0,1,2,3,4,5,6,7,8,9,10,11,12,13,14,15,16,17,18,19,20,21,22,23,24,25,26,27,28,29,30,31,32,33,34,35,36,37,38,39,40,41,42,43,44,45,46,47,48,49,50,51,52,53,54,55,56,57,58,59,60,61,62,63,64,65,66,67,68,69,70,71,72,73,74,75,76,77,78,79,80,81,82,83,84,85,86,87,88,89,90,91,92,93,94,95,96,97,98,99,100,101,102,103,104,105,106,107,108,109,110,111,112,113,114,115]]
set_option maxRecDepth 100000 in
set_option maxHeartbeats 16000000 in
theorem QAE (w:World) (ht:Tabs w):Calls Tryz.prog 13 #[] w (XO w):=by
 have HT:=AA ht;have HB:=AA (Below.refl w.heap.size w);clear ht;go_enter Tryz.func13,Tryz.ntmps13;go_wp2_with fail
 refine(fp1 _ (HT.out.on HB.out)).mono ?_;rintro e u1 ⟨v1,rfl,ho,hb⟩;replace HB:=AA (AC HB.out hb);obtain⟨g1,m1,gi,mi,m2,A2,A3,m3,g4,m4,AR,mR,AB,mB,A5,m5,A6,m6,rfl, -⟩:=SH ho;have HX:=AA (I0 u1 (.slice (some ⟨g1,0,none⟩) 1 m1) (.slice A2 0 m2) (.slice A3 1 m3) (.slice (some ⟨g4,0,none⟩) 1 m4) (.slice A5 0 m5) (.slice A6 1 m6));have hal:=(Below.refl u1.heap.size u1).alloc (Nat.le_refl _) (.cells #[.slice (some ⟨g1,0,none⟩) 1 m1,.slice A2 0 m2,.slice A3 1 m3,.slice (some ⟨g4,0,none⟩) 1 m4,.slice A5 0 m5,.slice A6 1 m6] 27);have HA:=AA (ho.on hal);replace HB:=AA (AC HB.out hal)
 obtain⟨b1,hb1⟩:∃b,u1.heap.size=b:=⟨_,rfl⟩
 clear ho hb hal;unfold DU;go_upto_region 2 with(fail)
 rw[hb1]at HX;generalize u1.alloc (.cells #[.slice (some ⟨g1,0,none⟩) 1 m1,.slice A2 0 m2,.slice A3 1 m3,.slice (some ⟨g4,0,none⟩) 1 m4,.slice A5 0 m5,.slice A6 1 m6] 27)=x1 at *;clear hb1;go_wp2_with fail
 refine(fp2 _ (HT.out.on HB.out)).mono ?_;rintro e u2 ⟨v2,rfl,ho,hb⟩;replace HB:=AA (AC HB.out hb);replace HA:=AA (HA.out.on hb);replace HX:=AA (HX.out.on hb);obtain⟨P21,p21,q21,P22,p22,q22,P23,p23,q23,P24,p24,q24,P25,p25,q25,P26,p26,q26,rfl⟩:=ho.forms;have hal:=(Below.refl u2.heap.size u2).alloc (Nat.le_refl _) (.cells #[.slice P21 p21 q21,.slice P22 p22 q22,.slice P23 p23 q23,.slice P24 p24 q24,.slice P25 p25 q25,.slice P26 p26 q26] 27);replace HA:=AA (HA.out.on hal);replace HX:=AA (HX.out.on hal);replace HB:=AA (AC HB.out hal);clear ho hb hal;unfold DU;go_upto_region 3 with(fail)
 generalize u2.alloc (.cells #[.slice P21 p21 q21,.slice P22 p22 q22,.slice P23 p23 q23,.slice P24 p24 q24,.slice P25 p25 q25,.slice P26 p26 q26] 27)=x2 at *;go_wp2_with fail
 refine(fp3 _ (HT.out.on HB.out)).mono ?_;rintro e u3 ⟨v3,rfl,ho,hb⟩;replace HB:=AA (AC HB.out hb);replace HA:=AA (HA.out.on hb);replace HX:=AA (HX.out.on hb);obtain⟨P31,p31,q31,P32,p32,q32,P33,p33,q33,P34,p34,q34,P35,p35,q35,P36,p36,q36,rfl⟩:=ho.forms;have hal:=(Below.refl u3.heap.size u3).alloc (Nat.le_refl _) (.cells #[.slice P31 p31 q31,.slice P32 p32 q32,.slice P33 p33 q33,.slice P34 p34 q34,.slice P35 p35 q35,.slice P36 p36 q36] 27);replace HA:=AA (HA.out.on hal);replace HX:=AA (HX.out.on hal);replace HB:=AA (AC HB.out hal);clear ho hb hal;unfold DU;go_upto_region 4 with(fail)
 generalize u3.alloc (.cells #[.slice P31 p31 q31,.slice P32 p32 q32,.slice P33 p33 q33,.slice P34 p34 q34,.slice P35 p35 q35,.slice P36 p36 q36] 27)=x3 at *;go_wp2_with fail
 refine(fp4 _ (HT.out.on HB.out)).mono ?_;rintro e u4 ⟨v4,rfl,ho,hb⟩;replace HB:=AA (AC HB.out hb);replace HA:=AA (HA.out.on hb);replace HX:=AA (HX.out.on hb);obtain⟨P41,p41,q41,P42,p42,q42,P43,p43,q43,P44,p44,q44,P45,p45,q45,P46,p46,q46,rfl⟩:=ho.forms;have hal:=(Below.refl u4.heap.size u4).alloc (Nat.le_refl _) (.cells #[.slice P41 p41 q41,.slice P42 p42 q42,.slice P43 p43 q43,.slice P44 p44 q44,.slice P45 p45 q45,.slice P46 p46 q46] 27);replace HA:=AA (HA.out.on hal);replace HX:=AA (HX.out.on hal);replace HB:=AA (AC HB.out hal);clear ho hb hal;unfold DU;go_upto_region 5 with(fail)
 generalize u4.alloc (.cells #[.slice P41 p41 q41,.slice P42 p42 q42,.slice P43 p43 q43,.slice P44 p44 q44,.slice P45 p45 q45,.slice P46 p46 q46] 27)=x4 at *;go_wp2_with fail
 refine(fp5 _ (HT.out.on HB.out)).mono ?_;rintro e u5 ⟨v5,rfl,ho,hb⟩;replace HB:=AA (AC HB.out hb);replace HA:=AA (HA.out.on hb);replace HX:=AA (HX.out.on hb);obtain⟨P51,p51,q51,P52,p52,q52,P53,p53,q53,P54,p54,q54,P55,p55,q55,P56,p56,q56,rfl⟩:=ho.forms;have hal:=(Below.refl u5.heap.size u5).alloc (Nat.le_refl _) (.cells #[.slice P51 p51 q51,.slice P52 p52 q52,.slice P53 p53 q53,.slice P54 p54 q54,.slice P55 p55 q55,.slice P56 p56 q56] 27);replace HA:=AA (HA.out.on hal);replace HX:=AA (HX.out.on hal);replace HB:=AA (AC HB.out hal);clear ho hb hal;unfold DU;go_upto_region 6 with(fail)
 generalize u5.alloc (.cells #[.slice P51 p51 q51,.slice P52 p52 q52,.slice P53 p53 q53,.slice P54 p54 q54,.slice P55 p55 q55,.slice P56 p56 q56] 27)=x5 at *;obtain⟨_,_,gj,mj,_,_,_,_,_,_,AQ,mQ,AP,mP,_,_,_,_,hvv,c1,ci1,ci3,c40,c41,c42⟩:=SH HA.out;simp only[Pv.mk.injEq,Value.slice.injEq,Option.some.injEq,Addr.mk.injEq,and_true,true_and]at hvv;obtain⟨⟨rfl,rfl⟩,⟨rfl,rfl⟩,⟨rfl,rfl⟩,⟨rfl,rfl⟩,⟨rfl,rfl⟩,rfl,rfl⟩:=hvv;obtain⟨l,z0,z1,z2,z3,z4,z5, -, -, -, -, -, -⟩:=AI HX.out;go_upto_region 8 with(fail)
 simp only[List.append];refine Qw 97 20 (by kernel_rfl) (by kernel_rfl) (by kernel_rfl) ?_;simp only[List.take_succ_cons,List.take_zero];replace HA:=AA (HA.out.on (AD x5));replace HX:=AA (HX.out.on (AD x5));replace HB:=AA (AC HB.out (AD x5));replace c1:x5.drew.cell? ⟨g1,0,none⟩=_:=c1;replace ci1:x5.drew.cell? ⟨gj,1,none⟩=_:=ci1;replace ci3:x5.drew.cell? ⟨gj,3,none⟩=_:=ci3;replace c40:x5.drew.cell? ⟨g4,0,none⟩=_:=c40;replace c41:x5.drew.cell? ⟨g4,1,none⟩=_:=c41;replace c42:x5.drew.cell? ⟨g4,2,none⟩=_:=c42;clear l z0 z1 z2 z3 z4 z5;generalize x5.drew=x6 at *
 obtain⟨l,z0,z1,z2,z3,z4,z5, -, -, -, -, -, -⟩:=AI HX.out;go_wp2_with fail
 refine(fs1 HA.out (HT.out.on HB.out)).mono ?_;rintro e6 y6 ⟨rfl,hb⟩;replace HA:=AA (HA.out.on hb);replace HX:=AA (HX.out.on hb);replace HB:=AA (AC HB.out hb);clear c1 ci1 ci3 c40 c41 c42;clear hb;clear l z0 z1 z2 z3 z4 z5;obtain⟨l,z0,z1,z2,z3,z4,z5, -, -, -, -, -, -⟩:=AI HX.out;go_wp2_with fail
 refine(fr1 HA.out (HT.out.on HB.out)).mono ?_;rintro e7 y7 ⟨rfl,hb⟩;replace HA:=AA (HA.out.on hb);replace HX:=AA (HX.out.on hb);replace HB:=AA (AC HB.out hb);clear hb;clear l z0 z1 z2 z3 z4 z5;obtain⟨l,z0,z1,z2,z3,z4,z5, -, -, -, -, -, -⟩:=AI HX.out;have hlk:=AA (QCX y7);have hal:=(Below.refl y7.heap.size y7).alloc (Nat.le_refl _) (.cells #[.string ⟨#[]⟩,.int .i64 0,.int .i64 0] 48);replace HA:=AA (HA.out.on hal);replace HX:=AA (HX.out.on hal);replace HB:=AA (AC HB.out hal);clear hal;go_wp2_with fail
 refine(fr2 hlk.out (HT.out.on HB.out)).mono ?_;rintro e8 y8 ⟨rfl,hb⟩;replace HA:=AA (HA.out.on hb);replace HX:=AA (HX.out.on hb);replace HB:=AA (AC HB.out hb);clear hlk;clear hb;clear l z0 z1 z2 z3 z4 z5;obtain⟨l,z0,z1,z2,z3,z4,z5, -, -, -, -, -, -⟩:=AI HX.out;go_wp2_with fail
 change wpAny _ _ _ _ _ _ _ _;refine EA (E:=AV) (i:=97) (j:=98) (fuel:=19) (by kernel_rfl) (by kernel_rfl) (by kernel_rfl) (by decide) (by decide) ?_ ?_
 focus
  simp only[List.drop_succ_cons,List.drop_zero,List.take_succ_cons,List.take_zero];go_wp2_with fail
  change wpAny _ _ _ _ _ _ _ _;refine Af (E:=AV) (by kernel_rfl) (by kernel_rfl) 5 98 14 _ _ _ (by kernel_rfl) ?_;simp only[List.drop_succ_cons,List.drop_zero,List.take_succ_cons,List.take_zero];go_wp2_with fail
  refine(BN HA.out CW).mono ?_;rintro e9 y9 ⟨ua,rfl,ho,hb⟩;replace HA:=AA (HA.out.on hb);replace HX:=AA (HX.out.on hb);replace HB:=AA (AC HB.out hb);obtain⟨uaA1,uan1,uam1,uaA2,uan2,uam2,uaA3,uan3,uam3,uaA4,uan4,uam4,uaA5,uan5,uam5,uaA6,uan6,uam6,rfl⟩:=ho.forms;have Hua:=AA ho;unfold DU;clear ho;clear hb;clear l z0 z1 z2 z3 z4 z5;obtain⟨l,z0,z1,z2,z3,z4,z5, -, -, -, -, -, -⟩:=AI HX.out;go_wp2_with fail
  refine(fm1 HA.out Hua.out).mono ?_;rintro e10 y10 ⟨rfl,hb⟩;replace HA:=AA (HA.out.on hb);replace HX:=AA (HX.out.on hb);replace Hua:=AA (Hua.out.on hb);replace HB:=AA (AC HB.out hb);clear hb;clear l z0 z1 z2 z3 z4 z5;obtain⟨l,z0,z1,z2,z3,z4,z5, -, -, -, -, -, -⟩:=AI HX.out;go_wp2_with fail
  change wpAny _ _ _ _ _ _ _ _
 rotate_left
 focus
  simp only[List.drop_succ_cons,List.drop_zero,List.take_succ_cons,List.take_zero];go_wp2_with fail
  change wpAny _ _ _ _ _ _ _ _
 refine EA (E:=AV) (i:=97) (j:=99) (fuel:=18) (by kernel_rfl) (by kernel_rfl) (by kernel_rfl) (by decide) (by decide) ?_ ?_
 focus
  simp only[List.drop_succ_cons,List.drop_zero,List.take_succ_cons,List.take_zero];go_wp2_with fail
  change wpAny _ _ _ _ _ _ _ _;refine Af (E:=AV) (by kernel_rfl) (by kernel_rfl) 4 99 14 _ _ _ (by kernel_rfl) ?_;simp only[List.drop_succ_cons,List.drop_zero,List.take_succ_cons,List.take_zero];go_wp2_with fail
  refine(BN HA.out CW).mono ?_;rintro e9 y9 ⟨ua,rfl,ho,hb⟩;replace HA:=AA (HA.out.on hb);replace HX:=AA (HX.out.on hb);replace HB:=AA (AC HB.out hb);obtain⟨uaA1,uan1,uam1,uaA2,uan2,uam2,uaA3,uan3,uam3,uaA4,uan4,uam4,uaA5,uan5,uam5,uaA6,uan6,uam6,rfl⟩:=ho.forms;have Hua:=AA ho;unfold DU;clear ho;clear hb;clear l z0 z1 z2 z3 z4 z5;obtain⟨l,z0,z1,z2,z3,z4,z5, -, -, -, -, -, -⟩:=AI HX.out;go_wp2_with fail
  refine(fm1 HA.out Hua.out).mono ?_;rintro e10 y10 ⟨rfl,hb⟩;replace HA:=AA (HA.out.on hb);replace HX:=AA (HX.out.on hb);replace Hua:=AA (Hua.out.on hb);replace HB:=AA (AC HB.out hb);clear hb;clear l z0 z1 z2 z3 z4 z5;obtain⟨l,z0,z1,z2,z3,z4,z5, -, -, -, -, -, -⟩:=AI HX.out;go_wp2_with fail
  change wpAny _ _ _ _ _ _ _ _
 rotate_left
 focus
  simp only[List.drop_succ_cons,List.drop_zero,List.take_succ_cons,List.take_zero];go_wp2_with fail
  refine(BN HA.out CW).mono ?_;rintro e9 y9 ⟨ua,rfl,ho,hb⟩;replace HA:=AA (HA.out.on hb);replace HX:=AA (HX.out.on hb);replace HB:=AA (AC HB.out hb);obtain⟨uaA1,uan1,uam1,uaA2,uan2,uam2,uaA3,uan3,uam3,uaA4,uan4,uam4,uaA5,uan5,uam5,uaA6,uan6,uam6,rfl⟩:=ho.forms;have Hua:=AA ho;unfold DU;clear ho;clear hb;clear l z0 z1 z2 z3 z4 z5;obtain⟨l,z0,z1,z2,z3,z4,z5, -, -, -, -, -, -⟩:=AI HX.out;go_wp2_with fail
  change wpAny _ _ _ _ _ _ _ _;refine Af (E:=AV) (by kernel_rfl) (by kernel_rfl) 1 97 17 _ _ _ (by kernel_rfl) ?_;simp only[List.drop_succ_cons,List.drop_zero,List.take_succ_cons,List.take_zero];go_wp2_with fail
  change wpAny _ _ _ _ _ _ _ _;refine Af (E:=AV) (by kernel_rfl) (by kernel_rfl) 3 100 14 _ _ _ (by kernel_rfl) ?_;simp only[List.drop_succ_cons,List.drop_zero,List.take_succ_cons,List.take_zero];go_wp2_with fail
  refine(fm1 HA.out Hua.out).mono ?_;rintro e10 y10 ⟨rfl,hb⟩;replace HA:=AA (HA.out.on hb);replace HX:=AA (HX.out.on hb);replace Hua:=AA (Hua.out.on hb);replace HB:=AA (AC HB.out hb);clear hb;clear l z0 z1 z2 z3 z4 z5;obtain⟨l,z0,z1,z2,z3,z4,z5, -, -, -, -, -, -⟩:=AI HX.out;go_wp2_with fail
  change wpAny _ _ _ _ _ _ _ _
 all_goals
  refine EA (E:=AV) (i:=103) (j:=104) (fuel:=13) (by kernel_rfl) (by kernel_rfl) (by kernel_rfl) (by decide) (by decide) ?_ ?_
  focus
   simp only[List.drop_succ_cons,List.drop_zero,List.take_succ_cons,List.take_zero];go_wp2_with fail
   change wpAny _ _ _ _ _ _ _ _;refine Af (E:=AV) (by kernel_rfl) (by kernel_rfl) 1 104 12 _ _ _ (by kernel_rfl) ?_;simp only[List.drop_succ_cons,List.drop_zero,List.take_succ_cons,List.take_zero];go_wp2_with fail
   change wpAny _ _ _ _ _ _ _ _;refine Af (E:=AV) (by kernel_rfl) (by kernel_rfl) 4 105 8 _ _ _ (by kernel_rfl) ?_;simp only[List.drop_succ_cons,List.drop_zero,List.take_succ_cons,List.take_zero];go_wp2_with fail
   refine(fm2 HA.out (Ej _ 0)).mono ?_;rintro e11 y11 ⟨rfl,hb⟩;replace HA:=AA (HA.out.on hb);replace HX:=AA (HX.out.on hb);replace HB:=AA (AC HB.out hb);clear hb;clear l z0 z1 z2 z3 z4 z5;obtain⟨l,z0,z1,z2,z3,z4,z5, -, -, -, -, -, -⟩:=AI HX.out;go_wp2_with fail
   change wpAny _ _ _ _ _ _ _ _
  rotate_left
  focus
   simp only[List.drop_succ_cons,List.drop_zero,List.take_succ_cons,List.take_zero];go_wp2_with fail
   change wpAny _ _ _ _ _ _ _ _;refine Af (E:=AV) (by kernel_rfl) (by kernel_rfl) 1 103 12 _ _ _ (by kernel_rfl) ?_;simp only[List.drop_succ_cons,List.drop_zero,List.take_succ_cons,List.take_zero];go_wp2_with fail
   change wpAny _ _ _ _ _ _ _ _;refine Af (E:=AV) (by kernel_rfl) (by kernel_rfl) 4 105 8 _ _ _ (by kernel_rfl) ?_;simp only[List.drop_succ_cons,List.drop_zero,List.take_succ_cons,List.take_zero];go_wp2_with fail
   refine(fm2 HA.out (Ej _ 0)).mono ?_;rintro e11 y11 ⟨rfl,hb⟩;replace HA:=AA (HA.out.on hb);replace HX:=AA (HX.out.on hb);replace HB:=AA (AC HB.out hb);clear hb;clear l z0 z1 z2 z3 z4 z5;obtain⟨l,z0,z1,z2,z3,z4,z5, -, -, -, -, -, -⟩:=AI HX.out;go_wp2_with fail
   change wpAny _ _ _ _ _ _ _ _
 all_goals
  refine EA (E:=AV) (i:=109) (j:=111) (fuel:=7) (by kernel_rfl) (by kernel_rfl) (by kernel_rfl) (by decide) (by decide) ?_ ?_
  focus
   simp only[List.drop_succ_cons,List.drop_zero,List.take_succ_cons,List.take_zero];go_wp2_with fail
   change wpAny _ _ _ _ _ _ _ _
  refine EA (E:=AV) (i:=110) (j:=111) (fuel:=6) (by kernel_rfl) (by kernel_rfl) (by kernel_rfl) (by decide) (by decide) ?_ ?_
  focus
   simp only[List.drop_succ_cons,List.drop_zero,List.take_succ_cons,List.take_zero];go_wp2_with fail
   refine(BN HA.out CW).mono ?_;rintro e12 y12 ⟨ub,rfl,ho,hb⟩;replace HA:=AA (HA.out.on hb);replace HX:=AA (HX.out.on hb);replace HB:=AA (AC HB.out hb);obtain⟨ubA1,ubn1,ubm1,ubA2,ubn2,ubm2,ubA3,ubn3,ubm3,ubA4,ubn4,ubm4,ubA5,ubn5,ubm5,ubA6,ubn6,ubm6,rfl⟩:=ho.forms;have Hub:=AA ho;unfold DU;clear ho;clear hb;clear l z0 z1 z2 z3 z4 z5;obtain⟨l,z0,z1,z2,z3,z4,z5, -, -, -, -, -, -⟩:=AI HX.out;go_wp2_with fail
   change wpAny _ _ _ _ _ _ _ _;refine Af (E:=AV) (by kernel_rfl) (by kernel_rfl) 1 111 5 _ _ _ (by kernel_rfl) ?_;simp only[List.drop_succ_cons,List.drop_zero,List.take_succ_cons,List.take_zero];go_wp2_with fail
   change wpAny _ _ _ _ _ _ _ _
  rotate_left
  focus
   simp only[List.drop_succ_cons,List.drop_zero,List.take_succ_cons,List.take_zero];go_wp2_with fail
   change wpAny _ _ _ _ _ _ _ _;refine Af (E:=AV) (by kernel_rfl) (by kernel_rfl) 1 110 5 _ _ _ (by kernel_rfl) ?_;simp only[List.drop_succ_cons,List.drop_zero,List.take_succ_cons,List.take_zero];go_wp2_with fail
   refine(BN HA.out CW).mono ?_;rintro e12 y12 ⟨ub,rfl,ho,hb⟩;replace HA:=AA (HA.out.on hb);replace HX:=AA (HX.out.on hb);replace HB:=AA (AC HB.out hb);obtain⟨ubA1,ubn1,ubm1,ubA2,ubn2,ubm2,ubA3,ubn3,ubm3,ubA4,ubn4,ubm4,ubA5,ubn5,ubm5,ubA6,ubn6,ubm6,rfl⟩:=ho.forms;have Hub:=AA ho;unfold DU;clear ho;clear hb;clear l z0 z1 z2 z3 z4 z5;obtain⟨l,z0,z1,z2,z3,z4,z5, -, -, -, -, -, -⟩:=AI HX.out;go_wp2_with fail
   change wpAny _ _ _ _ _ _ _ _
  rotate_left
  focus
   simp only[List.drop_succ_cons,List.drop_zero,List.take_succ_cons,List.take_zero];go_wp2_with fail
   change wpAny _ _ _ _ _ _ _ _;refine Af (E:=AV) (by kernel_rfl) (by kernel_rfl) 2 109 5 _ _ _ (by kernel_rfl) ?_;simp only[List.drop_succ_cons,List.drop_zero,List.take_succ_cons,List.take_zero];go_wp2_with fail
   refine(BN HA.out CW).mono ?_;rintro e12 y12 ⟨ub,rfl,ho,hb⟩;replace HA:=AA (HA.out.on hb);replace HX:=AA (HX.out.on hb);replace HB:=AA (AC HB.out hb);obtain⟨ubA1,ubn1,ubm1,ubA2,ubn2,ubm2,ubA3,ubn3,ubm3,ubA4,ubn4,ubm4,ubA5,ubn5,ubm5,ubA6,ubn6,ubm6,rfl⟩:=ho.forms;have Hub:=AA ho;unfold DU;clear ho;clear hb;clear l z0 z1 z2 z3 z4 z5;obtain⟨l,z0,z1,z2,z3,z4,z5, -, -, -, -, -, -⟩:=AI HX.out;go_wp2_with fail
   change wpAny _ _ _ _ _ _ _ _
 all_goals
  refine Af (E:=AV) (by kernel_rfl) (by kernel_rfl) 5 112 0 _ _ _ (by kernel_rfl) ?_;simp only[List.drop_succ_cons,List.drop_zero,List.take_succ_cons,List.take_zero];go_wp2_with fail
  refine(BN HA.out CW).mono ?_;rintro e13 y13 ⟨uc,rfl,ho,hb⟩;replace HA:=AA (HA.out.on hb);replace HX:=AA (HX.out.on hb);replace Hub:=AA (Hub.out.on hb);replace HB:=AA (AC HB.out hb);obtain⟨ucA1,ucn1,ucm1,ucA2,ucn2,ucm2,ucA3,ucn3,ucm3,ucA4,ucn4,ucm4,ucA5,ucn5,ucm5,ucA6,ucn6,ucm6,rfl⟩:=ho.forms;have Huc:=AA ho;unfold DU;clear ho;clear hb;clear l z0 z1 z2 z3 z4 z5;obtain⟨l,z0,z1,z2,z3,z4,z5, -, -, -, -, -, -⟩:=AI HX.out;go_wp2_with fail
  refine(BN Huc.out Em).mono ?_;rintro e14 y14 ⟨ud,rfl,ho,hb⟩;replace HA:=AA (HA.out.on hb);replace HX:=AA (HX.out.on hb);replace Hub:=AA (Hub.out.on hb);replace Huc:=AA (Huc.out.on hb);replace HB:=AA (AC HB.out hb);obtain⟨udA1,udn1,udm1,udA2,udn2,udm2,udA3,udn3,udm3,udA4,udn4,udm4,udA5,udn5,udm5,udA6,udn6,udm6,rfl⟩:=ho.forms;have Hud:=AA ho;unfold DU;clear ho;clear hb;clear l z0 z1 z2 z3 z4 z5;obtain⟨l,z0,z1,z2,z3,z4,z5, -, -, -, -, -, -⟩:=AI HX.out;go_wp2_with fail
  refine(UG Hub.out Hud.out).mono ?_;rintro e15 y15 ⟨rfl,hb⟩;replace HA:=AA (HA.out.on hb);replace HX:=AA (HX.out.on hb);replace Hub:=AA (Hub.out.on hb);replace Huc:=AA (Huc.out.on hb);replace Hud:=AA (Hud.out.on hb);replace HB:=AA (AC HB.out hb);clear hb;clear l z0 z1 z2 z3 z4 z5;obtain⟨l,z0,z1,z2,z3,z4,z5, -, -, -, -, -, -⟩:=AI HX.out;go_wp2_with fail
  change wpAny _ _ _ _ _ _ _ _;refine Dk (E:=AV) (by kernel_rfl) (by kernel_rfl) (by kernel_rfl) ?_;go_wp2_with fail
  go_ret;exact⟨rfl,HB.out⟩
end Go.Proofs.YthfkpalfopdmhaaGreatDoor

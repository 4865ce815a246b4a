/- Texts of the walk, packed. -/
import Derived.Test.YthfkpalfopdmhaaGreatDoorW43
import Derived.Test.YthfkpalfopdmhaaGreatDoorW47
import Derived.Test.YthfkpalfopdmhaaGreatDoorW45
import Derived.Test.YthfkpalfopdmhaaGreatDoorW16
import Derived.Test.YthfkpalfopdmhaaGreatDoorW00
namespace Go.Proofs.YthfkpalfopdmhaaGreatDoor
open Go.RowKit
def X3 (w:World) (e:Ending) (w':World):Prop:=e=.returned (.bool true)/\Below w.heap.size w w'
structure Un (p:Prg):Prop where
 nl:p.lines.length<=10000
 lines:∀l∈p.lines,l.length<=10000
 nv:p.vols.length<=10000
 nk:p.locks.length<=10000
 nt:p.threads.length<=10000
 threads:∀t∈p.threads,t.regs.length<=10000
 nr:p.recs.length<=10000
 recs:∀t∈p.recs,t.regs.length<=10000
 nc:p.claims.length<=10000
theorem QDa {x:Stm} (h:EY x=true):x.e.length<=10000/\x.f.length<=10000:=by
 have:=Sj h;exact⟨this.2.2.1,this.2.2.2.1⟩
theorem Oj {l:List Cel} {m:Int} (h:l.all (A9 m)=true):∀c∈l,Dt c:=fun c hc=>by
 have:=List.all_eq_true.1 h c hc;unfold A9 at this;simp only[Bool.and_eq_true,decide_eq_true_eq]at this;have hn:=EH this.1.1.1;unfold Dt;omega
theorem TG {l:List Thr} {b:Bool} (h:l.all (Bv b)=true) (hc:∀t∈l,t.regs.length<=10000):(∀t∈l,DX t)/\∀t∈l,Gw t:=by
 have key:∀t∈l,DX t/\Gw t:=fun t ht=>by
  have:=List.all_eq_true.1 h t ht;unfold Bv at this;simp only[Bool.and_eq_true]at this;obtain⟨⟨⟨h1,_⟩,h3⟩,h4⟩:=this;have hn:t.name.length<=100000:=by
   cases b with
   |true=>exact Nat.le_trans (EH h1) (by decide)
   |false=>
    have h1':t.name.isEmpty=true:=h1;rw[List.isEmpty_iff]at h1';rw[h1'];exact Nat.zero_le _
  have hb:t.body.length<=40/\t.body.all EY=true:=by
   unfold CP at h3;simp only[Bool.and_eq_true,decide_eq_true_eq]at h3;exact h3.1
  exact⟨⟨hn,fun r hr=>Nat.le_trans (EH (List.all_eq_true.1 h4 r hr)) (by decide),hc t ht,Np h3,by omega⟩,hc t ht,by omega,fun y hy=>QDa (List.all_eq_true.1 hb.2 y hy)⟩
 exact⟨fun t ht=>(key t ht).1,fun t ht=>(key t ht).2⟩
theorem N3 {p:Prg} (h:BH p=true) (hc:Un p):GU p/\Ju p:=by
 unfold BH at h;simp only[Bool.and_eq_true,decide_eq_true_eq]at h;obtain⟨⟨⟨⟨⟨⟨h1,h2⟩,h3⟩,h4⟩,h5⟩,h6⟩,_⟩:=h;have t1:=TG h5 hc.threads;have t2:=TG h6 hc.recs;have hcl:∀c∈p.claims,Ej c.e/\c.e.length<=10000:=fun c hc'=>by
  have:=List.all_eq_true.1 h2 c hc';unfold Eo at this;simp only[Bool.and_eq_true]at this;exact⟨(I4 this.2).2,(I4 this.2).1⟩
 refine⟨⟨hc.nl,fun l hl=>⟨hc.lines l hl,?_⟩,hc.nv,Oj h3,hc.nk,Oj h4,hc.nt,t1.1,hc.nr,t2.1,hc.nc,hcl⟩,⟨hc.nl,hc.lines,hc.nv,hc.nk,hc.nt,t1.2,hc.nr,t2.2,hc.nc,fun c hc'=>(hcl c hc').2⟩⟩;have:=List.all_eq_true.1 h1 l hl;unfold EJ at this;simp only[Bool.and_eq_true]at this;exact Oj this.2
theorem N4 {s:List UInt8} {T:List Tok} {r:RS Prg} (h:AV s 0=.fine T) (hl:s.length<=4000) (hr:I8 T (T.length+1)=some r):EN s=O8 r:=by
 unfold EN;rw[if_neg (by omega),h,if_pos (show(Found.fine T).err=0 from rfl)];show O8 ((I8 T (T.length+1)).getD (.bad 0 0))=_;rw[hr];rfl
theorem Fj {c:UInt8} {r r':List UInt8} {a:Nat} {k n:Int} {t:List UInt8} {T:List Tok} (h:AZ (c::r)=⟨0,k,t,n⟩) (hb:Eu c=false) (hm:D8 (c::r)=false) (hl:(c::r).drop t.length=r') (hr:AV r' (a+t.length)=.fine T):AV (c::r) a=.fine (⟨k,t,n,a⟩::T):=by
 rw[GA r a hb hm (by rw[h]),h];simp only;rw[hl,hr,Kt];rfl
abbrev tx1:List UInt8:=[108,105,110,101,32,97,32,61,32,49,44,32,98,59,32,108,111,99,107,32,109,59,32,116,104,114,101,97,100,32,116,32,123,32,114,101,103,32,114,59,32,108,111,97,100,32,114,32,61,32,97,59,32,125,32,97,108,119,97,121,115,32,97,32,61,61,32,48,59]
theorem QHA:AV [108,105,110,101,32,97,32,61,32,49,44,32,98,59,32,108,111,99,107,32,109,59,32,116,104,114,101,97,100,32,116,32,123,32,114,101,103,32,114,59,32,108,111,97,100,32,114,32,61,32,97,59,32,125,32,97,108,119,97,121,115,32,97,32,61,61,32,48,59] 0=.fine [⟨1,[108,105,110,101],0,0⟩,⟨1,[97],0,5⟩,⟨3,[61],0,7⟩,⟨2,[49],1,9⟩,⟨3,[44],0,10⟩,⟨1,[98],0,12⟩,⟨3,[59],0,13⟩,⟨1,[108,111,99,107],0,15⟩,⟨1,[109],0,20⟩,⟨3,[59],0,21⟩,⟨1,[116,104,114,101,97,100],0,23⟩,⟨1,[116],0,30⟩,⟨3,[123],0,32⟩,⟨1,[114,101,103],0,34⟩,⟨1,[114],0,38⟩,⟨3,[59],0,39⟩,⟨1,[108,111,97,100],0,41⟩,⟨1,[114],0,46⟩,⟨3,[61],0,48⟩,⟨1,[97],0,50⟩,⟨3,[59],0,51⟩,⟨3,[125],0,53⟩,⟨1,[97,108,119,97,121,115],0,55⟩,⟨1,[97],0,62⟩,⟨3,[61,61],0,64⟩,⟨2,[48],0,67⟩,⟨3,[59],0,68⟩]:=by
 repeat(first|refine(Bj _ _ (by decide)).trans ?_|refine Fj (by decide+kernel) rfl rfl rfl ?_)
 rfl
abbrev tx2:List UInt8:=[118,111,108,32,120,59,32,108,105,110,101,32,97,59]
theorem QHB:AV [118,111,108,32,120,59,32,108,105,110,101,32,97,59] 0=.fine [⟨1,[118,111,108],0,0⟩,⟨1,[120],0,4⟩,⟨3,[59],0,5⟩,⟨1,[108,105,110,101],0,7⟩,⟨1,[97],0,12⟩,⟨3,[59],0,13⟩]:=by
 repeat(first|refine(Bj _ _ (by decide)).trans ?_|refine Fj (by decide+kernel) rfl rfl rfl ?_)
 rfl
abbrev tx3:List UInt8:=[116,104,114,101,97,100,32,116,32,123,32,114,101,103,32,114,32,108,111,97,100,32,114,32,61,32,97,59,32,125]
theorem QHC:AV [116,104,114,101,97,100,32,116,32,123,32,114,101,103,32,114,32,108,111,97,100,32,114,32,61,32,97,59,32,125] 0=.fine [⟨1,[116,104,114,101,97,100],0,0⟩,⟨1,[116],0,7⟩,⟨3,[123],0,9⟩,⟨1,[114,101,103],0,11⟩,⟨1,[114],0,15⟩,⟨1,[108,111,97,100],0,17⟩,⟨1,[114],0,22⟩,⟨3,[61],0,24⟩,⟨1,[97],0,26⟩,⟨3,[59],0,27⟩,⟨3,[125],0,29⟩]:=by
 repeat(first|refine(Bj _ _ (by decide)).trans ?_|refine Fj (by decide+kernel) rfl rfl rfl ?_)
 rfl
abbrev tx4:List UInt8:=[108,105,110,101,32,97]
theorem QHD:AV [108,105,110,101,32,97] 0=.fine [⟨1,[108,105,110,101],0,0⟩,⟨1,[97],0,5⟩]:=by
 repeat(first|refine(Bj _ _ (by decide)).trans ?_|refine Fj (by decide+kernel) rfl rfl rfl ?_)
 rfl
abbrev tx5:List UInt8:=[114,101,99,111,118,101,114,32,123,32,125,32,114,101,99,111,118,101,114,32,123,32,125]
theorem QHE:AV [114,101,99,111,118,101,114,32,123,32,125,32,114,101,99,111,118,101,114,32,123,32,125] 0=.fine [⟨1,[114,101,99,111,118,101,114],0,0⟩,⟨3,[123],0,8⟩,⟨3,[125],0,10⟩,⟨1,[114,101,99,111,118,101,114],0,12⟩,⟨3,[123],0,20⟩,⟨3,[125],0,22⟩]:=by
 repeat(first|refine(Bj _ _ (by decide)).trans ?_|refine Fj (by decide+kernel) rfl rfl rfl ?_)
 rfl
def wantP:Prg:=⟨[[⟨[97],1,5⟩,⟨[98],0,12⟩]],[],[⟨[109],0,20⟩],[⟨[116],[[114]],[⟨2,[114],[97],[],[],0,0,0,41⟩],30⟩],[],[⟨[⟨10,0,[],64⟩,⟨2,0,[97],62⟩,⟨1,0,[],67⟩],55⟩]⟩
def lockP:Prg:=⟨[],[],[⟨[],0,0⟩],[],[],[]⟩
theorem fv1:EN tx1=⟨wantP,0,0⟩:=N4 (r:=.ok wantP 27) QHA (by decide) (by kernel_rfl)
theorem fv2:EN tx2=⟨noPg,5,7⟩:=N4 (r:=.bad 5 7) QHB (by decide) (by kernel_rfl)
theorem fv3:EN tx3=⟨noPg,5,17⟩:=N4 (r:=.bad 5 17) QHC (by decide) (by kernel_rfl)
theorem fv4:EN tx4=⟨noPg,6,6⟩:=N4 (r:=.bad 6 6) QHD (by decide) (by kernel_rfl)
theorem fv5:EN tx5=⟨noPg,5,12⟩:=N4 (r:=.bad 5 12) QHE (by decide) (by kernel_rfl)
theorem fp1 (w:World) (ht:Tabs w):Calls Tryz.prog 10 #[.string ⟨tx1.toArray⟩] w (KT ⟨wantP,0,0⟩ w):=by
 have:=Oh ⟨tx1.toArray⟩ w ht
 rwa [show EN (ByteArray.mk tx1.toArray).data.toList=⟨wantP,0,0⟩from fv1]at this
theorem fp2 (w:World) (ht:Tabs w):Calls Tryz.prog 10 #[.string ⟨tx2.toArray⟩] w (KT ⟨noPg,5,7⟩ w):=by
 have:=Oh ⟨tx2.toArray⟩ w ht
 rwa [show EN (ByteArray.mk tx2.toArray).data.toList=⟨noPg,5,7⟩from fv2]at this
theorem fp3 (w:World) (ht:Tabs w):Calls Tryz.prog 10 #[.string ⟨tx3.toArray⟩] w (KT ⟨noPg,5,17⟩ w):=by
 have:=Oh ⟨tx3.toArray⟩ w ht
 rwa [show EN (ByteArray.mk tx3.toArray).data.toList=⟨noPg,5,17⟩from fv3]at this
theorem fp4 (w:World) (ht:Tabs w):Calls Tryz.prog 10 #[.string ⟨tx4.toArray⟩] w (KT ⟨noPg,6,6⟩ w):=by
 have:=Oh ⟨tx4.toArray⟩ w ht
 rwa [show EN (ByteArray.mk tx4.toArray).data.toList=⟨noPg,6,6⟩from fv4]at this
theorem fp5 (w:World) (ht:Tabs w):Calls Tryz.prog 10 #[.string ⟨tx5.toArray⟩] w (KT ⟨noPg,5,12⟩ w):=by
 have:=Oh ⟨tx5.toArray⟩ w ht
 rwa [show EN (ByteArray.mk tx5.toArray).data.toList=⟨noPg,5,12⟩from fv5]at this
theorem Uo:BH wantP=true:=by decide+kernel
theorem QFp:Un wantP:=⟨by decide,by decide,by decide,by decide,by decide,by decide,by decide,by decide,by decide⟩
theorem Yu:GU wantP:=(N3 Uo QFp).1
theorem RO:Ju wantP:=(N3 Uo QFp).2
theorem QDb:BH (Dv wantP)=true:=Xc Uo
theorem QFq:Un (Dv wantP):=⟨by decide,by decide,by decide,by decide,by decide,by decide,by decide,by decide,by decide⟩
theorem QGk:GU (Dv wantP):=(N3 QDb QFq).1
theorem QGl:Ju (Dv wantP):=(N3 QDb QFq).2
theorem QHF:GU lockP:=⟨by decide,fun l h=>(by cases h),by decide,fun c h=>(by cases h),by decide,fun c h=>(by simp[lockP]at h;subst h;exact Nat.zero_le _),by decide,fun t h=>(by cases h),by decide,fun t h=>(by cases h),by decide,fun c h=>(by cases h)⟩
theorem fs1 {w:World} {B:Nat} {v:Pv} (h:B9 w B v wantP) (ht:Tabs w):Calls Tryz.prog 18 #[Hl v] w (Br [108,105,110,101,32,97,32,61,32,49,44,32,98,59,10,108,111,99,107,32,109,59,10,116,104,114,101,97,100,32,116,32,123,10,32,32,114,101,103,32,114,59,10,32,32,108,111,97,100,32,114,32,61,32,97,59,10,125,10,97,108,119,97,121,115,32,97,32,61,61,32,48,59,10] w):=by
 have:=QFk h Yu ht (by decide+kernel)
 rwa [show JJ wantP=[108,105,110,101,32,97,32,61,32,49,44,32,98,59,10,108,111,99,107,32,109,59,10,116,104,114,101,97,100,32,116,32,123,10,32,32,114,101,103,32,114,59,10,32,32,108,111,97,100,32,114,32,61,32,97,59,10,125,10,97,108,119,97,121,115,32,97,32,61,61,32,48,59,10]from by decide+kernel]at this
theorem fr1 {w:World} {B:Nat} {v:Pv} (h:B9 w B v wantP) (ht:Tabs w):Calls Tryz.prog 16 #[Hl v] w (AK true w):=by
 have:=RJ h Yu ht
 rwa [Uo]at this
theorem fr2 {w:World} {B:Nat} {v:Pv} (h:B9 w B v lockP) (ht:Tabs w):Calls Tryz.prog 16 #[Hl v] w (AK false w):=by
 have:=RJ h QHF ht
 rwa [show BH lockP=false from by decide+kernel]at this
theorem fm1 {w:World} {B B':Nat} {v u:Pv} (h:B9 w B v wantP) (k:B9 w B' u (Dv wantP)):Calls Tryz.prog 20 #[Hl v,Hl u] w (AK true w):=by
 have:=QFl h k Yu
 rwa [show KL false wantP (Dv wantP)=true from by decide+kernel]at this
theorem fm2 {w:World} {B B':Nat} {v u:Pv} (h:B9 w B v wantP) (k:B9 w B' u noPg):Calls Tryz.prog 20 #[Hl v,Hl u] w (AK false w):=by
 have:=QFl h k Yu
 rwa [show KL false wantP noPg=false from by decide+kernel]at this
theorem fd1 {w:World} {B B':Nat} {v u:Pv} (h:B9 w B v (Dv wantP)) (k:B9 w B' u (Dv (Dv wantP))):Calls Tryz.prog 12 #[Hl v,Hl u,.bool true] w (AK true w):=by
 have:=QG9 true h k QGk
 rwa [show KL true (Dv wantP) (Dv (Dv wantP))=true from by decide+kernel]at this
theorem TI {w:World} {B:Nat} {v:Pv} (h:B9 w B v wantP):∃g1 m1 gi mi m2 A2 A3 m3 g4 m4 AR mR AB mB A5 m5 A6 m6,
  v=⟨.slice (some ⟨g1,0,none⟩) 1 m1,.slice A2 0 m2,.slice A3 1 m3,.slice (some ⟨g4,0,none⟩) 1 m4,.slice A5 0 m5,.slice A6 1 m6⟩/\
  w.cell? ⟨g1,0,none⟩=some (.slice (some ⟨gi,0,none⟩) 2 mi)/\w.cell? ⟨gi,1,none⟩=some (.int .i64 1)/\w.cell? ⟨gi,3,none⟩=some (.string ⟨#[98]⟩)/\
  w.cell? ⟨g4,0,none⟩=some (.string ⟨#[116]⟩)/\w.cell? ⟨g4,1,none⟩=some (.slice AR 1 mR)/\w.cell? ⟨g4,2,none⟩=some (.slice AB 1 mB):=by
 obtain⟨v1,v2,v3,v4,v5,v6⟩:=v;obtain⟨⟨K1,hK1,hm1⟩,hC2,hC3,⟨K4,hK4,hm4⟩,⟨K5,hK5,hm5⟩,⟨K6,hK6,hm6⟩⟩:=h;have l1:K1.length=1:=by have:=congrArg List.length hm1;rw[List.length_map]at this;exact this
 have l4:K4.length=1:=by have:=congrArg List.length hm4;rw[List.length_map]at this;exact this
 have l5:K5.length=0:=by have:=congrArg List.length hm5;rw[List.length_map]at this;exact this
 have l6:K6.length=1:=by have:=congrArg List.length hm6;rw[List.length_map]at this;exact this
 obtain⟨x,rfl⟩:=List.length_eq_one_iff.1 l1;obtain⟨y,rfl⟩:=List.length_eq_one_iff.1 l4;obtain⟨A1,m1,hv1,_,_,r1⟩:=hK1.reads;obtain⟨A4,m4,hv4,_,_,r4⟩:=hK4.reads;obtain⟨A2,m2,hv2,_⟩:=hC2.reads;obtain⟨A3,m3,hv3,_⟩:=hC3.reads;obtain⟨A5,m5,hv5,_⟩:=hK5.reads;obtain⟨A6,m6,hv6,_⟩:=hK6.reads;obtain⟨g1,rfl,_,_,c1⟩:=r1 0 x rfl;obtain⟨g4,rfl,_,_,d0,d1,d2,_⟩:=r4 0 y rfl;have hx:x.l=[⟨[97],1,5⟩,⟨[98],0,12⟩]:=by simpa[wantP]using hm1
 have hy:y.t=⟨[116],[[114]],[⟨2,[114],[97],[],[],0,0,0,41⟩],30⟩:=by simpa[wantP]using hm4
 have sx:=hK1.sub x (by simp);rw[hx]at sx;obtain⟨Ai,mi,hvi,_,_,ri⟩:=sx.reads;obtain⟨gi,rfl,_,_,_,i1,_⟩:=ri 0 _ rfl;obtain⟨gi',hg',_,_,j0,_,_⟩:=ri 1 _ rfl;cases hg';have sy:=hK4.sub y (by simp);rw[hy]at sy d0;obtain⟨AR,mR,hvR,_⟩:=sy.1.reads;obtain⟨AB,mB,hvB⟩:=sy.2.slice;simp only at hv1 hv2 hv3 hv4 hv5 hv6;refine⟨g1,m1,gi,mi,m2,A2,A3,m3,g4,m4,AR,mR,AB,mB,A5,m5,A6,m6,?_,?_,i1,j0,d0,?_,?_⟩
 ·rw[hv1,hv2,hv3,hv4,hv5,hv6,l5,l6];rfl
 ·rw[c1,hvi];rfl
 ·rw[d1,hvR];rfl
 ·rw[d2,hvB];rfl
theorem QDc (w:World):B9 (w.alloc (.cells #[.string ⟨#[]⟩,.int .i64 0,.int .i64 0] 48)) 0 ⟨.slice none 0 0,.slice none 0 0,.slice (some ⟨w.heap.size,0,none⟩) 1 1,.slice none 0 0,.slice none 0 0,.slice none 0 0⟩ lockP:=
 ⟨LI _ _,Hj _ _,⟨rfl,.inr ⟨w.heap.size,1,#[.string ⟨#[]⟩,.int .i64 0,.int .i64 0],rfl,Nat.zero_le _,heap_alloc_new w _,Nat.le_refl _,by decide,rfl,rfl⟩⟩,Jh _ _,Jh _ _,LJ _ _⟩
end Go.Proofs.YthfkpalfopdmhaaGreatDoor

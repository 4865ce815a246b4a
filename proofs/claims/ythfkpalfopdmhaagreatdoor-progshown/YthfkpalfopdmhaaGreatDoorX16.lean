/- Texts of the walk, packed. -/
import Derived.Test.YthfkpalfopdmhaaGreatDoorX15
import Derived.Test.YthfkpalfopdmhaaGreatDoorX09
import Derived.Test.YthfkpalfopdmhaaGreatDoorX00
namespace Go.Proofs.YthfkpalfopdmhaaGreatDoor
open Go.RowKit
theorem U0 (x y:Stm):DO false x y=(x.kind==y.kind&&(x.reg==y.reg&&(x.name==y.name&&(ET false x.e y.e&&(ET false x.f y.f&&(x.n==y.n&&(x.body==y.body&&x.els==y.els))))))):=by
 unfold DO;cases x.kind==y.kind<;>cases x.reg==y.reg<;>cases x.name==y.name<;>cases x.n==y.n<;>cases x.body==y.body<;>cases x.els==y.els<;>cases ET false x.e y.e<;>cases ET false x.f y.f<;>rfl
set_option maxRecDepth 100000 in
set_option maxHeartbeats 8000000 in
theorem alike_any (x y:Stm) (vE vF uE uF:Value) (w:World) (hE:BA w vE x.e) (hF:BA w vF x.f) (kE:BA w uE y.e) (kF:BA w uF y.f) (hs:GW x):Calls Tryz.prog 175 #[Qs x vE vF,Qs y uE uF] w (AN (DO false x y) w):=by
 have s3:=hs.2.2.1;have s4:=hs.2.2.2.1;clear hs;have HV:=AA (U0 x y);obtain⟨V,hV⟩:∃V,DO false x y=V:=⟨_,rfl⟩
 rw[hV];rw[hV]at HV;clear hV;obtain⟨k,reg,name,e,f,n,body,els,pl⟩:=x;obtain⟨k',reg',name',e',f',n',body',els',pl'⟩:=y;obtain⟨AE,cE,rfl,_⟩:=id hE;obtain⟨AF,cF,rfl,_⟩:=id hF;obtain⟨BE,dE,rfl,_⟩:=id kE;obtain⟨BF,dF,rfl,_⟩:=id kF;simp only at *;unfold Qs;simp only;have HB1:=AA ((Below.refl w.heap.size w).alloc (Nat.le_refl _) (.cells #[.int .i64 k,.string ⟨reg.toArray⟩,.string ⟨name.toArray⟩,.slice AE e.length cE,.slice AF f.length cF,.int .i64 n,.int .i64 body,.int .i64 els,.int .i64 pl] 44))
 have N1:=AA (Ed w (.int .i64 k) (.string ⟨reg.toArray⟩) (.string ⟨name.toArray⟩) (.slice AE e.length cE) (.slice AF f.length cF) (.int .i64 n) (.int .i64 body) (.int .i64 els) (.int .i64 pl) 44);go_enter Tryz.func175,Tryz.ntmps175;go_upto_region 1 with(fail)
 have hz:w.heap.size+1=(w.alloc (.cells #[.int .i64 k,.string ⟨reg.toArray⟩,.string ⟨name.toArray⟩,.slice AE e.length cE,.slice AF f.length cF,.int .i64 n,.int .i64 body,.int .i64 els,.int .i64 pl] 44)).heap.size:=by simp
 rw[hz];generalize w.alloc (.cells #[.int .i64 k,.string ⟨reg.toArray⟩,.string ⟨name.toArray⟩,.slice AE e.length cE,.slice AF f.length cF,.int .i64 n,.int .i64 body,.int .i64 els,.int .i64 pl] 44)=X at *;have HB2:=AA ((Below.refl X.heap.size X).alloc (Nat.le_refl _) (.cells #[.int .i64 k',.string ⟨reg'.toArray⟩,.string ⟨name'.toArray⟩,.slice BE e'.length dE,.slice BF f'.length dF,.int .i64 n',.int .i64 body',.int .i64 els',.int .i64 pl'] 44));have N2:=AA (Ed X (.int .i64 k') (.string ⟨reg'.toArray⟩) (.string ⟨name'.toArray⟩) (.slice BE e'.length dE) (.slice BF f'.length dF) (.int .i64 n') (.int .i64 body') (.int .i64 els') (.int .i64 pl') 44)
 have N1':=AA (N1.out.on HB2.out);generalize X.alloc (.cells #[.int .i64 k',.string ⟨reg'.toArray⟩,.string ⟨name'.toArray⟩,.slice BE e'.length dE,.slice BF f'.length dF,.int .i64 n',.int .i64 body',.int .i64 els',.int .i64 pl'] 44)=Y at *;have HB:=AA (AC HB1.out HB2.out);have RE:=AA (hE.on HB.out);have RF:=AA (hF.on HB.out);have QE:=AA (kE.on HB.out);have QF:=AA (kF.on HB.out);clear hE hF kE kF N1 HB1 HB2 hz;obtain⟨_,a0,a1,a2,a3,a4,a5,a6,a7,a8⟩:=N1'.out;obtain⟨_,b0,b1,b2,b3,b4,b5,b6,b7,b8⟩:=N2.out;cases e1:(k==k')with
 |false=>
  have HN:Hid (V=false):=AA (by rw[HV.out,e1];simp);go_wp2_with fail
  go_ret;exact⟨AH HN.out.symm,HB.out⟩
 |true=>
  cases e2:(reg==reg')with
  |false=>
   have HN:Hid (V=false):=AA (by rw[HV.out,e2];simp);go_wp2_with fail
   go_ret;exact⟨AH HN.out.symm,HB.out⟩
  |true=>
   cases e3:(name==name')with
   |false=>
    have HN:Hid (V=false):=AA (by rw[HV.out,e3];simp);go_wp2_with fail
    go_ret;exact⟨AH HN.out.symm,HB.out⟩
   |true=>
    go_wp2_with fail
    refine(PQ _ _ e e' _ RE.out QE.out s3).mono ?_;cases e4:ET false e e' with
    |false=>
     have HN:Hid (V=false):=AA (by rw[HV.out,e4];simp);rintro r1 w1 ⟨rfl,hb1⟩;go_wp2_with fail
     go_ret;exact⟨AH HN.out.symm,AC HB.out hb1⟩
    |true=>
     rintro r1 w1 ⟨rfl,hb1⟩;have HC1:=AA (hb1);clear hb1 a0 a1 a2 a3 a4 a5 a6 a7 a8 b0 b1 b2 b3 b4 b5 b6 b7 b8;obtain⟨_,a0,a1,a2,a3,a4,a5,a6,a7,a8⟩:=N1'.out.on HC1.out;obtain⟨_,b0,b1,b2,b3,b4,b5,b6,b7,b8⟩:=N2.out.on HC1.out;go_wp2_with fail
     refine(PQ _ _ f f' _ (RF.out.on HC1.out) (QF.out.on HC1.out) s4).mono ?_;cases e5:ET false f f' with
     |false=>
      have HN:Hid (V=false):=AA (by rw[HV.out,e5];simp);rintro r1 w2 ⟨rfl,hb2⟩;go_wp2_with fail
      go_ret;exact⟨AH HN.out.symm,AC (AC HB.out HC1.out) hb2⟩
     |true=>
      rintro r1 w2 ⟨rfl,hb2⟩;have HC2:=AA (AC HC1.out hb2);clear hb2 a0 a1 a2 a3 a4 a5 a6 a7 a8 b0 b1 b2 b3 b4 b5 b6 b7 b8;obtain⟨_,a0,a1,a2,a3,a4,a5,a6,a7,a8⟩:=N1'.out.on HC2.out;obtain⟨_,b0,b1,b2,b3,b4,b5,b6,b7,b8⟩:=N2.out.on HC2.out;cases e6:(n==n')with
      |false=>
       have HN:Hid (V=false):=AA (by rw[HV.out,e6];simp);go_wp2_with fail
       go_ret;exact⟨AH HN.out.symm,(AC HB.out HC2.out)⟩
      |true=>
       cases e7:(body==body')with
       |false=>
        have HN:Hid (V=false):=AA (by rw[HV.out,e7];simp);go_wp2_with fail
        go_ret;exact⟨AH HN.out.symm,(AC HB.out HC2.out)⟩
       |true=>
        have HN:Hid (V=(els==els')):=AA (by rw[HV.out,e1,e2,e3,e4,e5,e6,e7];simp);go_wp2_with fail
        go_ret;exact⟨AH HN.out.symm,(AC HB.out HC2.out)⟩
theorem BC (w:World) (x y:Obj):Below w.heap.size w ((w.alloc x).alloc y):=
 ((Below.refl _ _).alloc (Nat.le_refl _) _).alloc (by simp) _
set_option maxRecDepth 100000 in
set_option maxHeartbeats 4000000 in
theorem Wb (v1 v2:Value) (L M:List Stm) (w:World) (h1:BI w v1 L) (h2:BI w v2 M) (hl:L.length≤10000) (hsm:∀x∈L,GW x):
  Calls Tryz.prog 174 #[v1,v2,.func (.func 175) #[] #[]] w (AN (Jy false L M) w):=by
 have HR1:=AA h1;have HR2:=AA h2;have HSM:=AA hsm;obtain⟨A,c,rfl,hc,hm1,hr1⟩:=h1;obtain⟨A',c',rfl,hc',hm2,hr2⟩:=h2;clear hr1 hr2 hsm;by_cases hL:L.length=M.length
 ·rw[←hL]at HR2 hc'⊢;have HL:=AA hL;have HM:=AA (show∀k,k<L.length→k<M.length by rw[hL];exact fun _ h=>h);clear hL;go_enter Tryz.func174,Tryz.ntmps174;go_wp2_with fail
  go_loopw [17] (fun i wr=>∃k:Nat,k≤L.length∧i=.int .i64 k∧Below w.heap.size w wr∧Ad (DO false) (L.take k) (M.take k)=true) (fun i _=>L.length-(intOf i).toNat)
  case atStart=>exact⟨0,Nat.zero_le _,rfl,Below.refl _ _,rfl⟩
  case round=>
   obtain⟨k,hk,rfl,hbel,hs⟩:=hrel;have HS:=AA hs;have HB:=AA hbel;have hsz:=hbel.size;clear hs;by_cases hlt:k<L.length
   ·have hkm:=HM.out k hlt;have ha:L[k]?=some L[k]:=List.getElem?_eq_getElem hlt;have hb:M[k]?=some (M[k]'hkm):=List.getElem?_eq_getElem hkm
    generalize L[k]=a at *;generalize M[k]'hkm=b at *
    have HSA:=AA (HSM.out a (List.mem_of_getElem? ha));obtain⟨A2,c2,hv,_,_,hr⟩:=HR1.out.on hbel;obtain⟨rfl,_,rfl⟩:A=A2∧True∧c=c2:=by simpa using hv
    obtain⟨A2',c2',hv',_,_,hr'⟩:=HR2.out.on hbel;obtain⟨rfl,rfl⟩:A'=A2'∧c'=c2':=by simp only[Value.slice.injEq]at hv';exact⟨hv'.1,hv'.2.2⟩
    obtain⟨g,o,AE,nE,cE,AF,nF,cF,rfl,h9⟩:=hr k a ha;obtain⟨g',o',BE,mE,dE,BF,mF,dF,rfl,k9⟩:=hr' k b hb;obtain⟨hg,x0,x1,x2,x3,x4,x5,x6,x7,x8,re,rf⟩:=h9;obtain⟨hg',y0,y1,y2,y3,y4,y5,y6,y7,y8,qe,qf⟩:=k9;have RE:=AA re;have RF:=AA rf;have QE:=AA qe;have QF:=AA qf;have HN:=AA (fun h=>DN (q:=DO false) ha hb h);have HY:=AA (CB (q:=DO false) ha hb);clear ha hb hr hr' hv hv' hbel re rf qe qf;cases e1:DO false a b with
    |false=>
     have HE:=AA e1;clear e1;go_wp2_with fail
     refine(alike_any a b (.slice AE nE cE) (.slice AF nF cF) (.slice BE mE dE) (.slice BF mF dF) _ (RE.out.on (BC _ _ _)) (RF.out.on (BC _ _ _)) (QE.out.on (BC _ _ _)) (QF.out.on (BC _ _ _)) HSA.out).mono ?_;rw[HE.out];rintro e w1 ⟨rfl,hb⟩;have HB2:=AA (((HB.out.alloc hsz _).alloc (by simp;omega) _).trans (hb.mono (by simp;omega)));clear hb;go_wp2_with fail
     go_ret;exact⟨AH (HN.out HE.out).symm,HB2.out⟩
    |true=>
     have HE:=AA e1;clear e1;go_wp2_with fail
     refine(alike_any a b (.slice AE nE cE) (.slice AF nF cF) (.slice BE mE dE) (.slice BF mF dF) _ (RE.out.on (BC _ _ _)) (RF.out.on (BC _ _ _)) (QE.out.on (BC _ _ _)) (QF.out.on (BC _ _ _)) HSA.out).mono ?_;rw[HE.out];rintro e w1 ⟨rfl,hb⟩;have HB2:=AA (((HB.out.alloc hsz _).alloc (by simp;omega) _).trans (hb.mono (by simp;omega)));clear hb;go_wp2_with fail
     go_roundw;case rel=>exact⟨k+1,by omega,by go_num,HB2.out,by rw[HY.out,HS.out,HE.out];rfl⟩
     case measure=>simp[intOf];omega
   ·have HQ:=AA (Cf (q:=DO false) (by omega) HL.out HS.out);clear hbel;go_wp2_with fail
    go_ret;exact⟨AH HQ.out.symm,HB.out⟩
 ·have HQ:=AA (Ce (q:=DO false) hL);have hd:((L.length:Int) != (M.length:Int))=true:=by simp;omega
  clear hL;go_enter Tryz.func174,Tryz.ntmps174;go_wp2_with fail
  go_ret;exact⟨AH HQ.out.symm,Below.refl _ _⟩
theorem ZJ (v1 v2:Value) (L M:List Stm) (w:World) (h1:BI w v1 L) (h2:BI w v2 M) (hl:L.length≤10000) (hsm:∀x∈L,GW x):Calls Tryz.prog 126 #[v1,v2] w (AN (Jy false L M) w):=by
 have HR1:=AA h1;have HR2:=AA h2;clear h1 h2;go_enter Tryz.func126,Tryz.ntmps126;go_wp2_with fail
 refine(Wb v1 v2 L M _ HR1.out HR2.out hl hsm).mono ?_;rintro e w1 ⟨rfl,hb⟩;go_wp2_with fail
 go_ret;exact⟨rfl,hb⟩
end Go.Proofs.YthfkpalfopdmhaaGreatDoor
namespace Go.Proofs.YthfkpalfopdmhaaGreatDoor
open Go
def Js (l:List UInt8) (T:List Tok):Prop:=∀r a,∃T',T'.map Tok.bare=T∧AS (l++r) a=(AS r (a+l.length)).pre T'
def Sc (l:List UInt8) (T:List Tok):Prop:=∀r a,PT r→∃T',T'.map Tok.bare=T∧AS (l++r) a=(AS r (a+l.length)).pre T'
def LM (m:List UInt8):Prop:=∀r,PT (m++r)
theorem KA {c:UInt8} {m:List UInt8} (h:c=32∨c=41∨c=44∨c=59):LM (c::m):=by
 intro r;rcases h with rfl|rfl|rfl|rfl
 ·exact .inr (.inl ⟨_,rfl⟩)
 ·exact .inr (.inr (.inl ⟨_,rfl⟩))
 ·exact .inr (.inr (.inr (.inl ⟨_,rfl⟩)))
 ·exact .inr (.inr (.inr (.inr ⟨_,rfl⟩)))
theorem Oj {l m:List UInt8} {T S:List Tok} {r:List UInt8} {a:Nat} (h1:∃T',T'.map Tok.bare=T∧AS (l++(m++r)) a=(AS (m++r) (a+l.length)).pre T') (h2:∃T',T'.map Tok.bare=S∧AS (m++r) (a+l.length)=(AS r (a+l.length+m.length)).pre T'):
  ∃T',T'.map Tok.bare=T++S∧AS ((l++m)++r) a=(AS r (a+(l++m).length)).pre T':=by
 obtain⟨T1,e1,s1⟩:=h1;obtain⟨T2,e2,s2⟩:=h2;refine⟨T1++T2,by rw[List.map_append,e1,e2],?_⟩;rw[List.append_assoc,s1,s2,SR,List.length_append,Nat.add_assoc]
theorem Js.app {l m:List UInt8} {T S:List Tok} (h1:Js l T) (h2:Js m S):Js (l++m) (T++S):=fun _ _=>Oj (h1 _ _) (h2 _ _)
theorem Js.appS {l m:List UInt8} {T S:List Tok} (h1:Js l T) (h2:Sc m S):Sc (l++m) (T++S):=fun _ _ hr=>Oj (h1 _ _) (h2 _ _ hr)
theorem Sc.app {l m:List UInt8} {T S:List Tok} (h1:Sc l T) (h2:Js m S) (hm:LM m):Js (l++m) (T++S):=fun r _=>Oj (h1 _ _ (hm r)) (h2 _ _)
theorem Sc.appS {l m:List UInt8} {T S:List Tok} (h1:Sc l T) (h2:Sc m S) (hm:LM m):Sc (l++m) (T++S):=fun r _ hr=>Oj (h1 _ _ (hm r)) (h2 _ _ hr)
theorem Js.sc {l:List UInt8} {T:List Tok} (h:Js l T):Sc l T:=fun r a _=>h r a
theorem OA:Js [] []:=fun r a=>⟨[],rfl,by rw[List.nil_append,pre_nil _ (Gk _ _).1 (Gk _ _).2];rfl⟩
theorem EP {p:List UInt8} (h:p.all Es=true):Js p []:=fun r a=>⟨[],rfl,by rw[UL p r a h,pre_nil _ (Gk _ _).1 (Gk _ _).2]⟩
def sg (c:UInt8):Tok:=⟨3,[c],0,0⟩
def wd (s:List UInt8):Tok:=⟨1,s,0,0⟩
theorem I9 {c:UInt8} (hc:c=123∨c=125∨c=59∨c=44):Js [c] [sg c]:=by
 intro r a;have hcut:Ag (c::r)=⟨0,3,[c],0⟩:=by
  have hl:Et c=false:=by rcases hc with rfl|rfl|rfl|rfl<;>decide
  have hd:digB c=false:=by rcases hc with rfl|rfl|rfl|rfl<;>decide
  rw[EV r hl hd];unfold Du;have:Eu (c::r)=some [c]:=by
   unfold Eu Bn;rcases hc with rfl|rfl|rfl|rfl<;>simp[List.isPrefixOf]
  rw[this]
 have hb:Es c=false:=by rcases hc with rfl|rfl|rfl|rfl<;>decide
 have h2:EF (c::r)=false:=Nl (by rcases hc with rfl|rfl|rfl|rfl<;>decide) _;exact⟨[⟨3,[c],0,a⟩],rfl,Ii (c:=c) (m:=[]) (r:=r) (k:=3) (n:=0) a hb h2 hcut⟩
theorem QGh:Js [61,32] [sg 61]:=by
 intro r a;have hcut:Ag (61::32::r)=⟨0,3,[61],0⟩:=by
  rw[EV _ (by decide) (by decide)];unfold Du;have:Eu (61::32::r)=some [61]:=by
   unfold Eu Bn;simp[List.isPrefixOf]
  rw[this]
 have h2:EF (61::32::r)=false:=Nl (by decide) _;refine⟨[⟨3,[61],0,a⟩],rfl,?_⟩;have:=Ii (c:=61) (m:=[]) (r:=32::r) (k:=3) (n:=0) a (by decide) h2 hcut;show AS (61::32::r) a=_;rw[show(61::32::r:List UInt8)=[61]++32::r from rfl,this,AU _ _ (by decide)];rfl
theorem KC {l:List UInt8} (h:MM l=true):Sc l [wd l]:=by
 intro r a hr;cases l with
 |nil=>exact absurd h (by decide)
 |cons c m=>
  unfold MM at h;simp only[Bool.and_eq_true,decide_eq_true_eq]at h;obtain⟨⟨⟨_,h1⟩,h2⟩,h3⟩:=h;have hc:Et c=true:=by simpa using h2
  have hcc:c.toNat=95∨(97≤c.toNat∧c.toNat≤122):=by unfold Et at hc;simp at hc;omega
  have hb:Es c=false:=by unfold Es;simp;omega
  refine⟨[⟨1,c::m,0,a⟩],rfl,Ii a hb (Nl (fun e=>by subst e;simp at hcc) _) ?_⟩;rw[List.cons_append,Ew _ hc,←List.cons_append];unfold Di;rw[Lx (by decide) (by decide) (by decide) (by decide) hr (c::m) h3,if_neg (by omega)]
theorem ZK {l:List UInt8} (h:nameB l=true):MM l=true:=by
 rw[←SS,h];rfl
theorem G9 {l:List UInt8} (h:nameB l=true):Sc l [wd l]:=KC (ZK h)
theorem QBG {n:Int} (h0:0≤n) (h1:n≤4294967296):Sc (Lib.itoa n) [⟨2,Lib.itoa n,n,0⟩]:=by
 intro r a hr;obtain⟨u,rfl⟩:∃u:Nat,n=u:=⟨n.toNat,by omega⟩
 rw[Lib.itoa_nonneg];exact⟨_,rfl,scan_num a (by omega) hr⟩
def Hn (l:List Nod):List Tok:=match F8 l with
 |some x=>BL false x
 |none=>[]
theorem LN {l:List Nod} (h:BZ l=true):Sc (Bi l) (Hn l):=by
 obtain⟨x,rfl,h1,h2,h3,h4,h5⟩:=Gs h;rw[h4];unfold Hn;rw[Ic h1.1];exact fun r a hr=>Vu x false r a h1 hr
def Ho (x:Stm):List Tok:=
 if x.kind=1 then[wd x.reg]++([sg 61]++Hn x.e)
 else if x.kind=2 then[wd (Jr 2)]++([wd x.reg]++([sg 61]++[wd x.name]))
 else if x.kind=3 then[wd (Jr 3)]++([wd x.name]++([sg 61]++Hn x.e))
 else if x.kind=4 then[wd (Jr 4)]++([wd x.reg]++([sg 61]++([wd x.name]++([sg 44]++(Hn x.e++([sg 44]++Hn x.f))))))
 else if x.kind=11∨x.kind=14 then[wd (Jr x.kind)]++Hn x.e
 else if x.kind=12 then[wd (Jr 12)]++[⟨2,Lib.itoa x.n,x.n,0⟩]
 else if x.kind=7∨x.kind=8∨x.kind=13 then[wd (Jr x.kind)]
 else[wd (Jr x.kind)]++[wd x.name]
theorem QDO:∀k:Fin 15,2≤k.1→MM (CO.getD k.1 [])=true:=by decide
theorem QC {k:Nat} (h1:2≤k) (h2:k≤14):Sc (Jr (k:Nat)) [wd (Jr (k:Nat))]:=by
 have:=QDO ⟨k,by omega⟩ h1;simp only at this;unfold Jr;rw[Int.toNat_natCast];exact KC this
theorem QD:Js [32,61,32] [sg 61]:=(EP (p:=[32]) (by decide)).app QGh
theorem QG:Js [44,32] [sg 44]:=by
 have:=(I9 (c:=44) (by simp)).app (EP (p:=[32]) (by decide));exact this
theorem QH {l:List UInt8} {T:List Tok} (h:Sc l T):Sc (32::l) T:=(EP (p:=[32]) (by decide)).appS h
theorem Kx (m:List UInt8):LM (32::m):=KA (.inl rfl)
theorem QEs (m:List UInt8):LM (44::m):=KA (.inr (.inr (.inl rfl)))
theorem QEt (m:List UInt8):LM (59::m):=KA (.inr (.inr (.inr rfl)))
theorem QDP {x:Stm} (h:Dy x=true):Sc (I4 x) (Ho x):=by
 obtain⟨k,hk,h1,h2⟩:=Hk h;obtain⟨_,_,_,hr,hn,he,hf,ht⟩:=J5 hk h;unfold I4 Ho;rw[hk];have hkk:k=1∨k=2∨k=3∨k=4∨(k=11∨k=14)∨k=12∨(k=7∨k=8∨k=13)∨(k=5∨k=6∨k=9∨k=10):=by omega
 rcases hkk with rfl|rfl|rfl|rfl|h|rfl|h|h
 ·exact(G9 hr).appS (QD.appS (LN he)) (Kx _)
 ·exact(QC (k:=2) (by omega) (by omega)).appS (QH ((G9 hr).appS (QD.appS (G9 hn)) (Kx _))) (Kx _)
 ·exact(QC (k:=3) (by omega) (by omega)).appS (QH ((G9 hn).appS (QD.appS (LN he)) (Kx _))) (Kx _)
 ·exact(QC (k:=4) (by omega) (by omega)).appS (QH ((G9 hr).appS (QD.appS ((G9 hn).appS (QG.appS ((LN he).appS (QG.appS (LN hf)) (QEs _))) (QEs _))) (Kx _))) (Kx _)
 ·rw[if_neg (by omega),if_neg (by omega),if_neg (by omega),if_neg (by omega),if_pos (by omega),if_neg (by omega),if_neg (by omega),if_neg (by omega),if_neg (by omega),if_pos (by omega)];rw[if_pos (by omega)]at he;exact(QC (by omega) h2).appS (QH (LN he)) (Kx _)
 ·have ht':1≤x.n∧x.n≤8:=by simpa using ht
  exact(QC (k:=12) (by omega) (by omega)).appS (QH (QBG (by omega) (by omega))) (Kx _)
 ·rw[if_neg (by omega),if_neg (by omega),if_neg (by omega),if_neg (by omega),if_neg (by omega),if_neg (by omega),if_pos (by omega),if_neg (by omega),if_neg (by omega),if_neg (by omega),if_neg (by omega),if_neg (by omega),if_neg (by omega),if_pos (by omega)];exact QC (by omega) h2
 ·rw[if_neg (by omega),if_neg (by omega),if_neg (by omega),if_neg (by omega),if_neg (by omega),if_neg (by omega),if_neg (by omega),if_neg (by omega),if_neg (by omega),if_neg (by omega),if_neg (by omega),if_neg (by omega),if_neg (by omega),if_neg (by omega)];rw[if_pos (by omega)]at hn;exact(QC (by omega) h2).appS (QH (G9 hn)) (Kx _)
def Hq (T:List Tok) (n:Nat):List Tok:=if 0<n then wd FU::sg 123::(T++[sg 125])else[]
def Dn:Bk→List Tok
 |.nil=>[]
 |.cons s b e r=>Ho s++((if GT s.kind then sg 123::(Dn b++(sg 125::Hq (Dn e) e.count))else[sg 59])++Dn r)
theorem LO {l:List UInt8} {T T':List Tok} (h:Js l T) (e:T=T'):Js l T':=e▸h
theorem QBH:∀(b:Bk) (ind:List UInt8),FV b→ind.all Es=true→Js (Bw ind b) (Dn b):=by
 intro b
 induction b with
 |nil=>intro ind _ _;exact OA
 |cons s b e r i1 i2 i3=>
  intro ind h hi;obtain⟨_,_,_,_,g1,g2,g3,g4⟩:=Gt.1 h;have hi2:(ind++[32,32]).all Es=true:=by rw[List.all_append,hi];rfl
  have c1:=i1 _ g2 hi2;have c2:=i2 _ g3 hi2;have c3:=i3 _ g4 hi;have hd:=QDP g1;have hind:=EP hi;have nl:Js [10] []:=EP (by decide);have ob:Js [32,123,10] [sg 123]:=((EP (p:=[32]) (by decide)).app (I9 (c:=123) (by simp))).app nl;have cb:Js [125,10] [sg 125]:=(I9 (c:=125) (by simp)).app nl;unfold Bw Dn;split
  ·have ew:Js ([125,32]++FU++[32,123,10]) [sg 125,wd FU,sg 123]:=
    LO ((((I9 (c:=125) (by simp)).app (EP (p:=[32]) (by decide))).appS (KC (l:=FU) (by decide))).app ob (Kx _)) rfl
   have mid:Js ((if 0<e.count then ind++([125,32]++FU++[32,123,10])++Bw (ind++[32,32]) e else[])++(ind++[125,10])) (sg 125::Hq (Dn e) e.count):=by
    unfold Hq;split
    ·exact LO (((hind.app ew).app c2).app (hind.app cb)) (by simp)
    ·exact LO (OA.app (hind.app cb)) (by simp)
   have all:=hind.app (hd.app ((ob.app (c1.app mid)).app c3) (Kx _));exact LO all (by simp)
  ·have semi:Js [59,10] [sg 59]:=(I9 (c:=59) (by simp)).app nl;have all:=hind.app (hd.app (semi.app c3) (QEt _));exact LO all (by simp)
theorem L6 {L:List Tok} {i b:Nat} {c:UInt8} {T:List Tok} (hc:c=59∨c=44∨c=123) (h:Aj L i (sg c::T)):A9 L b i=0:=by
 refine LH fun op ho _=>?_
 rw[Bo h];have key:∀op:Fin 16,(([59]:List UInt8)==A7 op)=false∧(([44]:List UInt8)==A7 op)=false∧(([123]:List UInt8)==A7 op)=false:=by decide
 have k:=key ⟨op,ho⟩;simp only at k;show(((3:Int)==1||(3:Int)==3)&&([c]==A7 op))=false;rcases hc with rfl|rfl|rfl
 ·rw[k.1];rfl
 ·rw[k.2.1];rfl
 ·rw[k.2.2];rfl
theorem QBI {x:Ex} (h:JY x) (hd:x.deep≤12) (hs:x.size≤40) {L:List Tok} {i:Nat} {c:UInt8} {R:List Tok} (hc:c=59∨c=44∨c=123) (hF:Aj L i (BL false x++sg c::R)):
  ∃l:List Nod,l.map bareN=x.flat.map bareN∧exprP L i=.ok l (i+(BL false x).length):=by
 have key:∃x' f,E0 x'=E0 x∧Ax L f 1 i 0=some (.ok x' (i+(BL false x).length)):=by
  cases x with
  |leaf a=>
   obtain⟨x',f,h1,h2⟩:=IG (.leaf a) L i 0 _ h hF (by omega);have hF2:=Aj.app (S:=BL true (.leaf a)) hF;obtain⟨f',hf'⟩:=J0 h2 5 1 (by omega) (by omega) (fun c' _ _=>L6 hc hF2);exact⟨x',f',h1,hf'⟩
  |un a y=>
   obtain⟨x',f,h1,h2⟩:=IG (.un a y) L i 0 _ h hF (by omega);have hF2:=Aj.app (S:=BL true (.un a y)) hF;obtain⟨f',hf'⟩:=J0 h2 5 1 (by omega) (by omega) (fun c' _ _=>L6 hc hF2);exact⟨x',f',h1,hf'⟩
  |bin a y z=>
   have hn:CN a=true:=Ij h;obtain⟨gx,gy⟩:=Kp h;have hop:=GQ h.1.1;obtain⟨k,hk⟩:∃k:Nat,a.op=k:=⟨a.op.toNat,by omega⟩
   have hk2:BG (k:Int)=some 2:=by rw[←hk];exact h.1.1
   have hkn:a.op.toNat=k:=by omega
   have e:BL false (.bin a y z)=BL true y++EW k::BL true z:=by simp[BL,hkn]
   have hF1:Aj L i (BL true y++(EW k::(BL true z++sg c::R))):=by rw[e]at hF;simpa using hF
   simp only[Ex.deep]at hd;obtain⟨y',f,hy',hf⟩:=IG y L i 0 _ gx hF1 (by omega);have hF2:=hF1.app;obtain⟨t2,_,_,hF3⟩:=Aj.head hF2;obtain⟨z',g,hz',hg⟩:=IG z L (i+(BL true y).length+1) 0 _ gy hF3 (by omega);have hF4:=hF3.app;obtain⟨f',hf'⟩:=Uc hk2 hf hF2 hg (fun c' _=>L6 hc hF4);refine⟨.bin ⟨k,0,[],plAt L (i+(BL true y).length)⟩ y' z',f',?_,?_⟩
   ·simp only[E0];rw[hy',hz',Np hk (PV hn (by
     intro e1;rw[e1]at hk;have:k=1:=by omega
     subst this;exact absurd hk2 (by decide)) (by
     intro e1;rw[e1]at hk;have:k=2:=by omega
     subst this;exact absurd hk2 (by decide)))]
   ·rw[hf',e];congr 2;simp only[List.length_append,List.length_cons];omega
 obtain⟨x',f,hx',hf⟩:=key;have hd':x'.deep=x.deep:=by rw[←IT x',hx',IT]
 have hs':x'.size=x.size:=by rw[←IU x',hx',IU]
 have hfl:x'.flat.map bareN=x.flat.map bareN:=by rw[←GK,hx',GK]
 refine⟨x'.flat,hfl,?_⟩;unfold exprP;rw[IS,YM hf,Me (by omega) (by omega),if_pos rfl];show RS.ok x'.flat (((i+(BL false x).length:Nat):Int)).toNat=_;rw[Int.toNat_natCast]
theorem LP {l:List Nod} (h:BZ l=true) {L:List Tok} {i:Nat} {c:UInt8} {R:List Tok} (hc:c=59∨c=44∨c=123) (hF:Aj L i (Hn l++sg c::R)):
  ∃l':List Nod,l'.map bareN=l.map bareN∧exprP L i=.ok l' (i+(Hn l).length):=by
 obtain⟨x,rfl,h1,h2,h3,_,_⟩:=Gs h;have e:Hn x.flat=BL false x:=by unfold Hn;rw[Ic h1.1]
 rw[e]at hF⊢;exact QBI h1 h2 h3 hc hF
theorem FR {L:List Tok} {i:Nat} {c:UInt8} {R:List Tok} (h:Aj L i (sg c::R)):Bg L i [c]=.ok () (i+1)∧Aj L (i+1) R:=by
 obtain⟨t,_,_,h3⟩:=Aj.head h;refine⟨?_,h3⟩;unfold Bg;rw[Bo h];simp[sg]
theorem Ha {L:List Tok} {i:Nat} {s:List UInt8} {R:List Tok} (hs:nameB s=true) (h:Aj L i (wd s::R)):BW L i=.ok s (i+1)∧Aj L (i+1) R:=by
 obtain⟨t,h1,h2,h3⟩:=Aj.head h;refine⟨?_,h3⟩;have hk:t.kind=1:=by have:=congrArg Tok.kind h2;exact this
 have hv:t.text=s:=by have:=congrArg Tok.text h2;exact this
 unfold BW nameAt;rw[h1];simp only;rw[if_pos ⟨hk,by rw[hv];exact hs⟩,hv]
theorem QBJ {L:List Tok} {i:Nat} {n:Int} {u:List UInt8} {R:List Tok} (hn:1≤n∧n≤8) (h:Aj L i (⟨2,u,n,0⟩::R)):Dc L i=.ok n (i+1)∧Aj L (i+1) R:=by
 obtain⟨t,h1,h2,h3⟩:=Aj.head h;refine⟨?_,h3⟩;have hk:t.kind=2:=by have:=congrArg Tok.kind h2;exact this
 have hv:t.n=n:=by have:=congrArg Tok.n h2;exact this
 unfold Dc;rw[h1];simp only;rw[if_pos hk,hv,if_pos hn]
theorem QDQ:∀k:Fin 15,2≤k.1→((List.range 15).find? (fun j=>decide (2≤j)&&(CO.getD k.1 []==CO.getD j []))).getD 1=k.1:=by decide
theorem KD {L:List Tok} {i k:Nat} {R:List Tok} (h1:2≤k) (h2:k≤14) (h:Aj L i (wd (Jr (k:Nat))::R)):Ao L i=k∧isB L i [125]=false:=by
 have e:Jr (k:Nat)=CO.getD k []:=by unfold Jr;rw[Int.toNat_natCast]
 rw[e]at h;have hk:=QDQ ⟨k,by omega⟩ h1;simp only at hk;refine⟨?_,?_⟩
 ·unfold Ao;have:(fun j=>decide (2≤j)&&isB L i (CO.getD j []))=(fun j=>decide (2≤j)&&(CO.getD k []==CO.getD j [])):=by
   funext j;rw[Bo h];simp[wd]
  rw[this];exact hk
 ·rw[Bo h];have key:∀k:Fin 15,2≤k.1→(CO.getD k.1 []==[125])=false:=by decide
  have:=key ⟨k,by omega⟩ h1;simp only at this;show(((1:Int)==1||(1:Int)==3)&&(CO.getD k []==[125]))=false;rw[this];rfl
theorem QDR:∀k:Fin 15,2≤k.1→JQ (CO.getD k.1 [])=true:=by decide
theorem ZL {L:List Tok} {i:Nat} {s:List UInt8} {R:List Tok} (hs:nameB s=true) (h:Aj L i (wd s::R)):Ao L i=1∧isB L i [125]=false:=by
 have hne:∀k,2≤k→k≤14→(s==CO.getD k [])=false:=by
  intro k h1 h2;rw[beq_eq_false_iff_ne];intro e;have h3:=QDR ⟨k,by omega⟩ h1;simp only at h3;rw[←e]at h3;have:=Qn s;rw[hs,h3]at this;cases this
 refine⟨?_,?_⟩
 ·unfold Ao;have:(List.range 15).find? (fun j=>decide (2≤j)&&isB L i (CO.getD j []))=none:=by
   rw[List.find?_eq_none];intro j hj;rw[List.mem_range]at hj;rw[Bo h];by_cases h2:2≤j
   ·have:=hne j h2 (by omega);show¬((decide (2≤j)&&(((1:Int)==1||(1:Int)==3)&&(s==CO.getD j [])))=true);rw[this];simp
   ·simp[h2]
  rw[this];rfl
 ·rw[Bo h];obtain⟨c,m,hc,hl⟩:=Ly hs;have:(s==[125])=false:=by
   rw[beq_eq_false_iff_ne,hc];intro e;simp at e;rw[e.1]at hl;exact absurd hl (by decide)
  show(((1:Int)==1||(1:Int)==3)&&(s==[125]))=false;rw[this];rfl
def bareS (s:Stm):Stm:={s with e:=s.e.map bareN,f:=s.f.map bareN,pl:=0}
def Ip (s:Stm):Stm:={bareS s with body:=0,els:=0}
theorem TN {L:List Tok} {i:Nat} {T:List Tok} {c:UInt8} {R:List Tok} (h:Aj L i (T++sg c::R)):Aj L (i+T.length) (sg c::R):=h.app
theorem Xj {x:Stm} (h:Dy x=true) {L:List Tok} {i:Nat} {c:UInt8} {R:List Tok} (hc:c=59∨c=44∨c=123) (hF:Aj L i (Ho x++sg c::R)):
  (Ao L i:Int)=x.kind∧isB L i [125]=false∧∃s,Ip s=Ip x∧s.kind=x.kind∧s.body=0∧s.els=0∧Dz L i=.ok s (i+(Ho x).length):=by
 obtain⟨k,hk,h1,h2⟩:=Hk h;obtain⟨_,_,_,hr,hn,he,hf,ht⟩:=J5 hk h;unfold Ho at hF⊢;rw[hk]at hF⊢;have hkk:k=1∨k=2∨k=3∨k=4∨(k=11∨k=14)∨k=12∨(k=7∨k=8∨k=13)∨(k=5∨k=6∨k=9∨k=10):=by omega
 obtain⟨xk,xr,xn,xe,xf,xm,xb,xl,xp⟩:=x;simp only at hk hr hn he hf ht hF⊢;rcases hkk with rfl|rfl|rfl|rfl|h|rfl|h|h
 ·have hn':xn=[]:=by simpa using hn
  have hf':xf=[]:=by simpa using hf
  have ht':xm=0:=by simpa using ht
  subst hk;subst hn';subst hf';subst ht';have hF:Aj L i (wd xr::(sg 61::(Hn xe++sg c::R))):=by simpa using hF
  obtain⟨k1,k2⟩:=ZL hr hF;obtain⟨a1,hF⟩:=Ha hr hF;obtain⟨a2,hF⟩:=FR hF;obtain⟨l,b1,a3⟩:=LP he hc hF;refine⟨by rw[k1],k2,?_⟩;unfold Dz;rw[k1,if_pos rfl];refine⟨{GV 1 (AT L i)with reg:=xr,e:=l},by simp[Ip,bareS,GV,b1],rfl,rfl,rfl,?_⟩;unfold DC;rw[if_pos rfl,a1,RS.bind_ok,a2,RS.bind_ok,a3,RS.bind_ok];congr 1;simp;omega
 ·have he':xe=[]:=by simpa using he
  have hf':xf=[]:=by simpa using hf
  have ht':xm=0:=by simpa using ht
  subst hk;subst he';subst hf';subst ht';have hF:Aj L i (wd (Jr (2:Nat))::(wd xr::(sg 61::(wd xn::sg c::R)))):=by simpa using hF
  obtain⟨k1,k2⟩:=KD (by omega) (by omega) hF;obtain⟨_,_,_,hF⟩:=Aj.head hF;obtain⟨a1,hF⟩:=Ha hr hF;obtain⟨a2,hF⟩:=FR hF;obtain⟨a3,hF⟩:=Ha hn hF;refine⟨by rw[k1],k2,?_⟩;unfold Dz;rw[k1,if_neg (by omega)];refine⟨{GV 2 (AT L i)with reg:=xr,name:=xn},by simp[Ip,bareS,GV],rfl,rfl,rfl,?_⟩;unfold DC;rw[if_neg (by omega),if_pos rfl,a1,RS.bind_ok,a2,RS.bind_ok,a3,RS.bind_ok];rfl
 ·have hr':xr=[]:=by simpa using hr
  have hf':xf=[]:=by simpa using hf
  have ht':xm=0:=by simpa using ht
  subst hk;subst hr';subst hf';subst ht';have hF:Aj L i (wd (Jr (3:Nat))::(wd xn::(sg 61::(Hn xe++sg c::R)))):=by simpa using hF
  obtain⟨k1,k2⟩:=KD (by omega) (by omega) hF;obtain⟨_,_,_,hF⟩:=Aj.head hF;obtain⟨a1,hF⟩:=Ha hn hF;obtain⟨a2,hF⟩:=FR hF;obtain⟨l,b1,a3⟩:=LP he hc hF;refine⟨by rw[k1],k2,?_⟩;unfold Dz;rw[k1,if_neg (by omega)];refine⟨{GV 3 (AT L i)with name:=xn,e:=l},by simp[Ip,bareS,GV,b1],rfl,rfl,rfl,?_⟩;unfold DC;rw[if_neg (by omega),if_neg (by omega),if_pos rfl,a1,RS.bind_ok,a2,RS.bind_ok,a3,RS.bind_ok];congr 1;simp;omega
 ·have ht':xm=0:=by simpa using ht
  subst hk;subst ht';have hF:Aj L i (wd (Jr (4:Nat))::(wd xr::(sg 61::(wd xn::(sg 44::(Hn xe++sg 44::(Hn xf++sg c::R))))))):=by simpa using hF
  obtain⟨k1,k2⟩:=KD (by omega) (by omega) hF;obtain⟨_,_,_,hF⟩:=Aj.head hF;obtain⟨a1,hF⟩:=Ha hr hF;obtain⟨a2,hF⟩:=FR hF;obtain⟨a3,hF⟩:=Ha hn hF;obtain⟨a4,hF⟩:=FR hF;obtain⟨l,b1,a5⟩:=LP he (.inr (.inl rfl)) hF;obtain⟨a6,hF⟩:=FR (TN hF);obtain⟨m,b2,a7⟩:=LP hf hc hF;refine⟨by rw[k1],k2,?_⟩;unfold Dz;rw[k1,if_neg (by omega)];refine⟨{GV 4 (AT L i)with reg:=xr,name:=xn,e:=l,f:=m},by simp[Ip,bareS,GV,b1,b2],rfl,rfl,rfl,?_⟩;unfold DC
  rw[if_neg (by omega),if_neg (by omega),if_neg (by omega),if_pos rfl,a1,RS.bind_ok,a2,RS.bind_ok,a3,RS.bind_ok,a4,RS.bind_ok,a5,RS.bind_ok,a6,RS.bind_ok,a7,RS.bind_ok];congr 1;simp;omega
 ·have hr':xr=[]:=by rw[if_neg (by omega)]at hr;simpa using hr
  have hn':xn=[]:=by rw[if_neg (by omega)]at hn;simpa using hn
  have hf':xf=[]:=by rw[if_neg (by omega)]at hf;simpa using hf
  have ht':xm=0:=by rw[if_neg (by omega)]at ht;simpa using ht
  rw[if_pos (by omega)]at he;subst hk;subst hr';subst hn';subst hf';subst ht';rw[if_neg (by omega),if_neg (by omega),if_neg (by omega),if_neg (by omega),if_pos (by omega)]at hF⊢;have hF:Aj L i (wd (Jr (k:Nat))::(Hn xe++sg c::R)):=by simpa using hF
  obtain⟨k1,k2⟩:=KD (by omega) (by omega) hF;obtain⟨_,_,_,hF⟩:=Aj.head hF;obtain⟨l,b1,a1⟩:=LP he hc hF;refine⟨by rw[k1],k2,?_⟩;unfold Dz;rw[k1,if_neg (by omega)];refine⟨{GV k (AT L i)with e:=l},by simp[Ip,bareS,GV,b1],rfl,rfl,rfl,?_⟩;unfold DC;rw[if_neg (by omega),if_neg (by omega),if_neg (by omega),if_neg (by omega),if_neg (by omega),if_pos (by omega),a1,RS.bind_ok];congr 1;simp;omega
 ·have hr':xr=[]:=by simpa using hr
  have hn':xn=[]:=by simpa using hn
  have he':xe=[]:=by simpa using he
  have hf':xf=[]:=by simpa using hf
  have ht':1≤xm∧xm≤8:=by simpa using ht
  subst hk;subst hr';subst hn';subst he';subst hf';have hF:Aj L i (wd (Jr (12:Nat))::(⟨2,Lib.itoa xm,xm,0⟩::sg c::R)):=by simpa using hF
  obtain⟨k1,k2⟩:=KD (by omega) (by omega) hF;obtain⟨_,_,_,hF⟩:=Aj.head hF;obtain⟨a1,hF⟩:=QBJ ht' hF;refine⟨by rw[k1],k2,?_⟩;unfold Dz;rw[k1,if_neg (by omega)];refine⟨{GV 12 (AT L i)with n:=xm},by simp[Ip,bareS,GV],rfl,rfl,rfl,?_⟩;unfold DC;rw[if_neg (by omega),if_neg (by omega),if_neg (by omega),if_neg (by omega),if_neg (by omega),if_neg (by omega),if_pos rfl,a1,RS.bind_ok];rfl
 ·have hr':xr=[]:=by rw[if_neg (by omega)]at hr;simpa using hr
  have hn':xn=[]:=by rw[if_neg (by omega)]at hn;simpa using hn
  have he':xe=[]:=by rw[if_neg (by omega)]at he;simpa using he
  have hf':xf=[]:=by rw[if_neg (by omega)]at hf;simpa using hf
  have ht':xm=0:=by rw[if_neg (by omega)]at ht;simpa using ht
  subst hk;subst hr';subst hn';subst he';subst hf';subst ht';rw[if_neg (by omega),if_neg (by omega),if_neg (by omega),if_neg (by omega),if_neg (by omega),if_neg (by omega),if_pos (by omega)]at hF⊢;have hF:Aj L i (wd (Jr (k:Nat))::sg c::R):=by simpa using hF
  obtain⟨k1,k2⟩:=KD (by omega) (by omega) hF;refine⟨by rw[k1],k2,?_⟩;unfold Dz;rw[k1,if_neg (by omega)];refine⟨GV k (AT L i),by simp[Ip,bareS,GV],rfl,rfl,rfl,?_⟩;unfold DC;rw[if_neg (by omega),if_neg (by omega),if_neg (by omega),if_neg (by omega),if_neg (by omega),if_neg (by omega),if_neg (by omega)];rfl
 ·have hr':xr=[]:=by rw[if_neg (by omega)]at hr;simpa using hr
  have he':xe=[]:=by rw[if_neg (by omega)]at he;simpa using he
  have hf':xf=[]:=by rw[if_neg (by omega)]at hf;simpa using hf
  have ht':xm=0:=by rw[if_neg (by omega)]at ht;simpa using ht
  rw[if_pos (by omega)]at hn;subst hk;subst hr';subst he';subst hf';subst ht';rw[if_neg (by omega),if_neg (by omega),if_neg (by omega),if_neg (by omega),if_neg (by omega),if_neg (by omega),if_neg (by omega)]at hF⊢;have hF:Aj L i (wd (Jr (k:Nat))::(wd xn::sg c::R)):=by simpa using hF
  obtain⟨k1,k2⟩:=KD (by omega) (by omega) hF;obtain⟨_,_,_,hF⟩:=Aj.head hF;obtain⟨a1,hF⟩:=Ha hn hF;refine⟨by rw[k1],k2,?_⟩;unfold Dz;rw[k1,if_neg (by omega)];refine⟨{GV k (AT L i)with name:=xn},by simp[Ip,bareS,GV],rfl,rfl,rfl,?_⟩;unfold DC;rw[if_neg (by omega),if_neg (by omega),if_neg (by omega),if_neg (by omega),if_pos (by omega),a1,RS.bind_ok];rfl
end Go.Proofs.YthfkpalfopdmhaaGreatDoor

/- Texts of the walk, packed. -/
import Derived.Test.YthfkpalfopdmhaaGreatDoorW11
import Derived.Test.YthfkpalfopdmhaaGreatDoorW13
import Derived.Deep.CutRange
import Derived.Deep.RegionHeld3
import Derived.Deep.DrawnRows
import Derived.Test.YthfkpalfopdmhaaGreatDoorW00
namespace Go.Proofs.YthfkpalfopdmhaaGreatDoor
open Go.RowKit
theorem Wn (L:List Tok) (f:Nat) (hl:L.length<=10000) (hc:∀f',f'<=f->Gj L f') (hs:Gi L f):Gj L (f+1):=by
 intro b i d r g v w hb hb2 hd hr h;rw[Ah]at hr;by_cases h6:b=6
 ·rw[if_pos h6]at hr;subst h6;exact ZY L f hs i d r g v w hd hr h
 ·rw[if_neg h6]at hr;cases hch:Ah L f (b+1) i d with
  |none=>rw[hch]at hr;cases hr
  |some r1=>
   refine Wm L f hl hc b i d r1 r g v w hb (by omega) hd hch ?_ h;rw[hch]at hr;cases r1 with
   |ok x tq=>exact hr
   |bad e j=>simp at hr;exact hr.symm
theorem QBo (L:List Tok) (hl:L.length<=10000) (hsm:Gf L):∀f,(∀f',f'<=f->Gj L f')/\Gi L f:=by
 intro f
 induction f with
 |zero=>
  refine⟨fun f' hf'=>?_,fun i d r g v w _ hr=>by simp[BU]at hr⟩;obtain rfl:f'=0:=by omega
  exact fun b i d r g v w _ _ _ hr=>by simp[Ah]at hr
 |succ f ih=>
  refine⟨fun f' hf'=>?_,VL L f hl hsm (ih.1 f (Nat.le_refl _)) ih.2⟩;by_cases e:f'=f+1
  ·subst e;exact Wn L f hl ih.1 ih.2
  ·exact ih.1 f' (by omega)
def QBp (q:Parsed) (w:World) (e:Ending) (w':World):Prop:=
 ∃v,e=.returned (.tuple #[v,.int .i64 q.tq,.int .i64 q.err,.int .i64 q.pl])/\Bn w' w.heap.size v q.nodes/\Below w.heap.size w w'
theorem JW {q q':Parsed} {w w':World} {e:Ending} {v:Value} (he:e=.returned (.tuple #[v,.int .i64 q'.tq,.int .i64 q'.err,.int .i64 q'.pl])) (h:q=q') (ho:Bn w' w.heap.size v q'.nodes) (hb:Below w.heap.size w w'):QBp q w e w':=by
 subst h;exact⟨v,he,ho,hb⟩
theorem QBq {L:List Tok} {v:Value} {i:Nat} {w:World} (h:GX w v L) (ht:Tabs w):Sits L (w.alloc (.cells #[v,.int .i64 i,.int .i64 0] 236)) w.heap.size v i 0:=by
 have hb:=(Below.refl w.heap.size w).alloc (Nat.le_refl _) (.cells #[v,.int .i64 i,.int .i64 0] 236);refine⟨⟨by simp,by simp,by simp,by simp,by simp,by simp⟩,?_,ht.on hb,ht.lt2⟩;obtain⟨A,c,hv,hc,hr⟩:=h;refine⟨A,c,hv,hc,fun j t hj=>?_⟩;obtain⟨b,hA,hbl,h0,h1,h2,h3⟩:=hr j t hj;have e:∀o,(w.alloc (.cells #[v,.int .i64 i,.int .i64 0] 236)).cell? ⟨b,o,none⟩=w.cell? ⟨b,o,none⟩:=fun o=>hb.cell (p:=⟨b,o,none⟩) hbl
 exact⟨b,hA,hbl,(e _).trans h0,(e _).trans h1,(e _).trans h2,(e _).trans h3⟩
def VO (L:List Tok) (i:Int):Res->Parsed
 |.bad e j=>⟨[],0,e,AN L j⟩
 |.ok x tq=>if 12<x.deep then⟨[],0,7,AN L i⟩else if 40<x.size then⟨[],0,2,AN L i⟩else⟨x.flat,tq,0,0⟩
theorem JX (L:List Tok) (k:Nat):EA L k=VO L k (GP L k):=by
 unfold EA;rw[if_neg (by omega),Int.toNat_natCast];cases GP L k<;>rfl
theorem QO {L:List Tok} {k:Int} {x:Ex} {tq:Nat} (h:12<x.deep):VO L k (.ok x tq)=⟨[],0,7,AN L k⟩:=by
 show(if 12<x.deep then _ else _)=_;rw[if_pos h]
theorem SE {L:List Tok} {k:Int} {x:Ex} {tq:Nat} (h:¬12<x.deep) (h2:40<x.size):VO L k (.ok x tq)=⟨[],0,2,AN L k⟩:=by
 show(if 12<x.deep then _ else if 40<x.size then _ else _)=_;rw[if_neg h,if_pos h2]
theorem QP {L:List Tok} {k:Int} {x:Ex} {tq:Nat} (h:¬12<x.deep) (h2:¬40<x.size):VO L k (.ok x tq)=⟨x.flat,tq,0,0⟩:=by
 show(if 12<x.deep then _ else if 40<x.size then _ else(⟨x.flat,tq,0,0⟩:Parsed))=_;rw[if_neg h,if_neg h2]
set_option maxRecDepth 100000 in
set_option maxHeartbeats 4000000 in
theorem parse_any (v:Value) (L:List Tok) (i:Int) (w:World) (h:GX w v L) (ht:Tabs w) (hl:L.length<=10000) (hsm:Gf L):Calls Tryz.prog 185 #[v,.int .i64 i] w (QBp (EA L i) w):=by
 by_cases hi:i<0
 ·have HQ:Hid (EA L i=⟨[],0,1,0⟩):=AA (by unfold EA;rw[if_pos hi]);clear h;go_enter Tryz.func185,Tryz.ntmps185;go_wp2_with fail
  refine bodyPost_ret (v:=.tuple #[.slice none 0 0,.int .i64 0,.int .i64 1,.int .i64 (0)]) (by simp[results,Tryz.results185,go_sem]) rfl ?_;exact JW (q':=⟨[],0,1,0⟩) rfl HQ.out (E8 _ _) (Below.refl _ _)
 ·obtain⟨k,rfl⟩:∃k:Nat,i=k:=⟨i.toNat,by omega⟩
  have HC:=AA (((QBo L hl hsm (20*(L.length-k)+12)).1 _ (Nat.le_refl _)) 1 k 0 (GP L k) w.heap.size v _ (by omega) (by omega) (by omega) (Jz L k) (QBq h ht));have HF:=AA (Kv L k);have HX:=AA (JX L k);have HSM:=AA hsm;have HR:=AA h;obtain⟨A0,cc0,rfl,_,_⟩:=h;clear ht hsm hi;generalize GP L k=r at *;have hz:(w.alloc (.cells #[.slice A0 L.length cc0,.int .i64 k,.int .i64 0] 236)).heap.size=w.heap.size+1:=by simp
  have HB0:=AA ((Below.refl w.heap.size w).alloc (Nat.le_refl _) (.cells #[.slice A0 L.length cc0,.int .i64 k,.int .i64 0] 236));go_enter Tryz.func185,Tryz.ntmps185;go_wp2_with fail
  refine HC.out.mono ?_;rintro e w1 ⟨P,A,n,c,hP,rfl,ho,hS,hK⟩;rw[hz]at ho;have hbw:Below w.heap.size w w1:=HB0.out.trans (hK.below (Nat.le_refl _) (by rw[hz];omega));have HP:=AA hP;have HO:=AA ho;have HS:=AA hS;have HB:=AA hbw;have hgl:=hS.rd.lt;obtain⟨⟨_,c0,c1,c2,f1,f2⟩,_,_,_⟩:=hS;clear hP ho hK hbw hz HC HB0 c2 f1 f2;cases r with
  |bad e j=>
   obtain⟨he,_⟩:=HF.out;have he2:(e != 0)=true:=by rcases he with rfl|rfl|rfl<;>rfl
   clear he;simp only[errOf,GY]at *;have HB2:=AA (HB.out.alloc HB.out.size (.cells #[.slice A n c,.int .i64 P.many,.int .i64 P.deep] 238));go_wp2_with fail
   refine(IP _ L j _ ((HR.out.on HB2.out)) hl HSM.out).mono ?_;rintro e' w2 ⟨rfl,hb⟩;go_wp2_with fail
   refine bodyPost_ret (v:=.tuple #[.slice none 0 0,.int .i64 0,.int .i64 e,.int .i64 (AN L j)]) (by simp[results,Tryz.results185,go_sem]) rfl ?_;exact JW (q':=⟨[],0,e,AN L j⟩) rfl HX.out (E8 _ _) (AC HB2.out hb)
  |ok x tq=>
   obtain⟨h1,h2,h3,h4,h5⟩:=HF.out;have hdz:=IQ x;obtain rfl:P=BL x:=HP.out;have HB2:=AA (HB.out.alloc HB.out.size (.cells #[.slice A n c,.int .i64 (BL x).many,.int .i64 (BL x).deep] 238));have em:(BL x).many=x.size:=rfl;have ed:(BL x).deep=x.deep:=rfl;simp only[errOf,GY,em,ed]at *;clear em ed h5;by_cases hd:12<x.deep
   ·have HX2:Hid (EA L k=⟨[],0,7,AN L k⟩):=AA (by rw[HX.out,QO hd]);have hdi:(12:Int)<(x.deep:Int):=by omega
    go_wp2_with fail
    refine(IP _ L k _ ((HR.out.on HB2.out)) hl HSM.out).mono ?_;rintro e' w2 ⟨rfl,hb⟩;go_wp2_with fail
    refine bodyPost_ret (v:=.tuple #[.slice none 0 0,.int .i64 0,.int .i64 7,.int .i64 (AN L k)]) (by simp[results,Tryz.results185,go_sem]) rfl ?_;exact JW (q':=⟨[],0,7,AN L k⟩) rfl HX2.out (E8 _ _) (AC HB2.out hb)
   ·have hdi:¬(12:Int)<(x.deep:Int):=by omega
    by_cases hs:40<x.size
    ·have HX2:Hid (EA L k=⟨[],0,2,AN L k⟩):=AA (by rw[HX.out,SE hd hs]);have hsi:(40:Int)<(x.size:Int):=by omega
     go_wp2_with fail
     refine(IP _ L k _ ((HR.out.on HB2.out)) hl HSM.out).mono ?_;rintro e' w2 ⟨rfl,hb⟩;go_wp2_with fail
     refine bodyPost_ret (v:=.tuple #[.slice none 0 0,.int .i64 0,.int .i64 2,.int .i64 (AN L k)]) (by simp[results,Tryz.results185,go_sem]) rfl ?_;exact JW (q':=⟨[],0,2,AN L k⟩) rfl HX2.out (E8 _ _) (AC HB2.out hb)
    ·have HX2:Hid (EA L k=⟨x.flat,tq,0,0⟩):=AA (by rw[HX.out,QP hd hs]);have hsi:¬(40:Int)<(x.size:Int):=by omega
     have HO2:Hid (Bn w1 w.heap.size (.slice A n c) x.flat):=AA (by
      have h0:=HO.out.base (B':=w.heap.size) (by omega);rw[show(BL x).ns=x.flat from by show(if x.size<=40 then x.flat else[])=_;rw[if_pos (by omega)]]at h0;exact h0)
     go_wp2_with fail
     go_quiet (fail)
     go_wp2_with fail
     refine bodyPost_ret (v:=.tuple #[.slice A n c,.int .i64 tq,.int .i64 0,.int .i64 0]) (by simp[results,Tryz.results185,go_sem]) rfl ?_;exact JW (q':=⟨x.flat,tq,0,0⟩) rfl HX2.out ((HO2.out.on ((Below.refl _ _).alloc (Nat.le_refl _) _)).on (AM _ _)) (HB2.out.trans (Wl _ _ _))
end Go.Proofs.YthfkpalfopdmhaaGreatDoor
namespace Go.Proofs.YthfkpalfopdmhaaGreatDoor
open Go
theorem IR:∀x:Ex,(GF x).deep=x.deep
 |.leaf _=>rfl
 |.un _ x=>by simp only[GF,Ex.deep,IR x]
 |.bin _ x y=>by simp only[GF,Ex.deep,IR x,IR y]
theorem IS:∀x:Ex,(GF x).size=x.size
 |.leaf _=>rfl
 |.un _ x=>by simp only[GF,Ex.size,IS x]
 |.bin _ x y=>by simp only[GF,Ex.size,IS x,IS y]
theorem Gk:∀x:Ex,(GF x).flat=x.flat.map bareN
 |.leaf _=>rfl
 |.un _ x=>by simp only[GF,Ex.flat,Gk x,List.map_cons]
 |.bin _ x y=>by simp only[GF,Ex.flat,Gk x,Gk y,List.map_cons,List.map_append]
theorem QQ {l:List UInt8}:∀{L:List Tok} {e:Nat},JO l e L->∀t∈L,t.pl+t.text.length<=l.length/\0<=t.n/\t.n<=4294967296
 |[],_,_,t,h=>by simp at h
 |a::L,e,hp,t,h=>by
  obtain⟨h1,h2,h3,h4,h5,h6,h7,h8,h9⟩:=hp;rcases List.mem_cons.1 h with rfl|h
  ·exact⟨h3,h7,h8⟩
  ·exact QQ h9 t h
theorem NL {l:List UInt8}:∀{L:List Tok} {e:Nat},e<=l.length->JO l e L->L.length+e<=l.length
 |[],e,he,_=>by simpa using he
 |a::L,e,he,hp=>by
  obtain⟨h1,h2,h3,h4,h5,h6,h7,h8,h9⟩:=hp;have:=NL h3 h9;simp only[List.length_cons];omega
theorem QR (l:List UInt8):(AV l 0).toks.length<=l.length/\∀t∈(AV l 0).toks,t.pl+t.text.length<=l.length/\0<=t.n/\t.n<=4294967296:=by
 have h:=U3 l l 0 (Nat.zero_le _) rfl;exact⟨by have:=NL (Nat.zero_le _) h;omega,QQ h⟩
theorem Wp {l:List UInt8} (h:l.length<=4000):Gf (AV l 0).toks:=by
 intro t ht;have:=(QR l).2 t ht;omega
theorem Gl {L:List Nod} (h:Bm L=true):∃x:Ex,L=x.flat/\JV x/\x.deep<=12/\x.size<=40/\CL L=AU false x/\QBV L=x.deep:=by
 obtain⟨x,hw,ho,rfl,h40,hall,hd⟩:=MB h;refine⟨x,rfl,⟨ho,hall⟩,hd,by rw[<-Bt];exact h40,?_,?_⟩
 ·unfold CL;rw[hw];simp[h]
 ·unfold QBV;rw[hw];simp[h]
theorem SG {x:Ex} (h:JV x) (hs:x.size<=40):(AU false x).length<=840:=by
 have:=Ky x false (OF h.2);omega
inductive RS (α:Type) where
 |ok (a:α) (tq:Nat)
 |bad (e pl:Int)
def RS.bind {α β:Type}:RS α->(α->Nat->RS β)->RS β
 |.ok a tq,k=>k a tq
 |.bad e p,_=>.bad e p
@[simp] theorem RS.bind_ok {α β:Type} (a:α) (tq:Nat) (k:α->Nat->RS β):(RS.ok a tq).bind k=k a tq:=rfl
@[simp] theorem RS.bind_bad {α β:Type} (e p:Int) (k:α->Nat->RS β):(RS.bad e p:RS α).bind k=.bad e p:=rfl
def badR {α:Type} (L:List Tok) (i:Nat) (e:Int):RS α:=.bad (if i<L.length then e else 6) (AN L i)
def Bo (L:List Tok) (i:Nat) (s:List UInt8):RS Unit:=if isB L i s=true then .ok () (i+1)else badR L i 5
def nameAt (L:List Tok) (i:Nat):Option (List UInt8):=match L[i]? with
 |some t=>if t.kind=1/\nameB t.text=true then some t.text else none
 |none=>none
def Bd (L:List Tok) (i:Nat):RS (List UInt8):=match nameAt L i with
 |some s=>.ok s (i+1)
 |none=>badR L i 5
def exprP (L:List Tok) (i:Nat):RS (List Nod):=if(EA L i).err=0 then .ok (EA L i).nodes (EA L i).tq.toNat else .bad (EA L i).err (EA L i).pl
def EQ (L:List Tok) (i:Nat):RS Int:=match L[i]? with
 |some t=>if t.kind=2 then(if 1<=t.n/\t.n<=8 then .ok t.n (i+1)else badR L i 11)else badR L i 5
 |none=>badR L i 5
def Aj (L:List Tok) (i:Nat):Nat:=((List.range 15).find? (fun k=>decide (2<=k)&&isB L i (CM.getD k []))).getD 1
def GR (k:Int) (pl:Int):Stm:=⟨k,[],[],[],[],0,0,0,pl⟩
def Di (L:List Tok) (k:Nat) (pl:Int) (i:Nat):RS Stm:=
 if k=1 then(Bd L i).bind fun r j=>(Bo L j [61]).bind fun _ j=>(exprP L j).bind fun e j=>.ok {GR k pl with reg:=r,e:=e} j
 else if k=2 then(Bd L i).bind fun r j=>(Bo L j [61]).bind fun _ j=>(Bd L j).bind fun n j=>.ok {GR k pl with reg:=r,name:=n} j
 else if k=3 then(Bd L i).bind fun n j=>(Bo L j [61]).bind fun _ j=>(exprP L j).bind fun e j=>.ok {GR k pl with name:=n,e:=e} j
 else if k=4 then(Bd L i).bind fun r j=>(Bo L j [61]).bind fun _ j=>(Bd L j).bind fun n j=>(Bo L j [44]).bind fun _ j=>(exprP L j).bind fun e j=>(Bo L j [44]).bind fun _ j=>(exprP L j).bind fun f j=>.ok {GR k pl with reg:=r,name:=n,e:=e,f:=f} j
 else if k=5\/k=6\/k=9\/k=10 then(Bd L i).bind fun n j=>.ok {GR k pl with name:=n} j
 else if k=11\/k=14 then(exprP L i).bind fun e j=>.ok {GR k pl with e:=e} j
 else if k=12 then(EQ L i).bind fun n j=>.ok {GR k pl with n:=n} j
 else .ok (GR k pl) i
def RS.obind {α β:Type}:Option (RS α)->(α->Nat->Option (RS β))->Option (RS β)
 |some (.ok a tq),k=>k a tq
 |some (.bad e p),_=>some (.bad e p)
 |none,_=>none
@[simp] theorem RS.obind_ok {α β:Type} (a:α) (tq:Nat) (k:α->Nat->Option (RS β)):RS.obind (some (RS.ok a tq)) k=k a tq:=rfl
@[simp] theorem RS.obind_bad {α β:Type} (e p:Int) (k:α->Nat->Option (RS β)):RS.obind (some (RS.bad e p:RS α)) k=some (.bad e p):=rfl
@[simp] theorem RS.obind_none {α β:Type} (k:α->Nat->Option (RS β)):RS.obind (none:Option (RS α)) k=none:=rfl
theorem RS.obind_some {α β:Type} {o:Option (RS α)} {k:α->Nat->Option (RS β)} {r:RS β} (h:RS.obind o k=some r):(∃a tq,o=some (.ok a tq)/\k a tq=some r)\/(∃e p,o=some (.bad e p)/\r=.bad e p):=by
 rcases o with _|⟨a,tq⟩|⟨e,p⟩
 ·cases h
 ·exact .inl ⟨a,tq,rfl,h⟩
 ·exact .inr ⟨e,p,rfl,by simpa using h.symm⟩
abbrev DF:=Nat->Nat->Nat->Option (RS Bk)
def CB (row:DF) (L:List Tok) (i d l:Nat):Option (RS Bk):=
 if 12<d/\isB L i [123]=true then some (badR L i 7)
 else RS.obind (some (Bo L i [123])) fun _ j=>RS.obind (row j d l) fun b j=>RS.obind (some (Bo L j [125])) fun _ j=>some (.ok b j)
structure YG where
 s:Stm
 b:Bk
 e:Bk
def EF (row:DF) (L:List Tok) (k:Nat) (i d l:Nat):Option (RS Bk):=
 if k=11/\isB L i FW=true then CB row L (i+1) d l else some (.ok .nil i)
def inL (k l:Nat):Nat:=if k=12 then l+1 else l
def G8 (row:DF) (L:List Tok) (i d l:Nat):Option (RS YG):=
 if Aj L i=13/\l=0 then some (badR L i 5)
 else RS.obind (some (Di L (Aj L i) (AN L i) (if Aj L i=1 then i else i+1))) fun s j=>
  if¬Hq (Aj L i:Nat)then RS.obind (some (Bo L j [59])) fun _ j=>some (.ok ⟨s,.nil,.nil⟩ j)
  else RS.obind (CB row L j (d+1) (inL (Aj L i) l)) fun b j=>RS.obind (EF row L (Aj L i) j (d+1) (inL (Aj L i) l)) fun e j=>some (.ok ⟨{s with body:=b.count,els:=e.count},b,e⟩ j)
def C7 (L:List Tok):Nat->DF
 |0=>fun _ _ _=>none
 |f+1=>fun i d l=>if isB L i [125]=true then some (.ok .nil i)
  else RS.obind (G8 (C7 L f) L i d l) fun o j=>RS.obind (C7 L f j d l) fun r j=>some (.ok (.cons o.s o.b o.e r) j)
def EZ {α:Type} (L:List Tok) (i:Nat) (r:RS α):Prop:=match r with
 |.ok _ tq=>i<tq/\tq<=L.length
 |.bad e _=>e≠0
def JH {α:Type} (L:List Tok) (i:Nat) (r:RS α):Prop:=match r with
 |.ok _ tq=>i<=tq/\tq<=L.length
 |.bad e _=>e≠0
theorem EZ.le {α:Type} {L:List Tok} {i:Nat} {r:RS α} (h:EZ L i r):JH L i r:=by
 cases r with
 |ok a tq=>exact⟨by have:=h.1;omega,h.2⟩
 |bad e p=>exact h
theorem GH {α:Type} {L:List Tok} {i j:Nat} {e:Int} (he:e≠0):EZ L j (badR L i e:RS α):=by
 unfold badR EZ;simp only;split<;>omega
theorem Ab (L:List Tok) (i:Nat) (s:List UInt8):EZ L i (Bo L i s):=by
 unfold Bo;split
 ·rename_i h;have:=Bl h;exact⟨by omega,by omega⟩
 ·exact GH (by omega)
theorem JY {L:List Tok} {i:Nat} {s:List UInt8} (h:nameAt L i=some s):i<L.length/\nameB s=true:=by
 unfold nameAt at h;split at h
 ·rename_i t ht
  split at h
  ·rename_i hc
   simp at h;subst h;exact⟨(List.getElem?_eq_some_iff.1 ht).1,hc.2⟩
  ·cases h
 ·cases h
theorem Ao (L:List Tok) (i:Nat):EZ L i (Bd L i):=by
 unfold Bd;split
 ·rename_i h;have:=(JY h).1;exact⟨by omega,by omega⟩
 ·exact GH (by omega)
theorem I3 (L:List Tok) (i:Nat):EZ L i (EQ L i):=by
 unfold EQ;split
 ·rename_i t ht
  have hi:=(List.getElem?_eq_some_iff.1 ht).1;split
  ·split
   ·exact⟨by omega,by omega⟩
   ·exact GH (by omega)
  ·exact GH (by omega)
 ·exact GH (by omega)
theorem MJ (L:List Tok) (i:Nat):((EA L i).err≠0/\(EA L i).nodes=[]/\(EA L i).tq=0)\/
  (∃x:Ex,x.ok/\x.deep<=12/\x.size<=40/\(∀a∈x.flat,YA L a)/\∃tq:Nat,EA L i=⟨x.flat,tq,0,0⟩/\i<tq/\tq<=L.length):=by
 have hf:=Kv L i;rw[JX];cases hp:GP L i with
 |bad e j=>
  rw[hp]at hf;obtain⟨h3,_⟩:=hf;exact .inl ⟨by show e≠0;omega,rfl,rfl⟩
 |ok x tq=>
  rw[hp]at hf;obtain⟨g1,g2,g3,g4,g5⟩:=hf;by_cases hd:12<x.deep
  ·rw[QO hd];exact .inl ⟨by show(7:Int)≠0;decide,rfl,rfl⟩
  ·by_cases hs:40<x.size
   ·rw[SE hd hs];exact .inl ⟨by show(2:Int)≠0;decide,rfl,rfl⟩
   ·rw[QP hd hs];exact .inr ⟨x,g3,by omega,by omega,g5,tq,rfl,by omega,g2⟩
theorem BO (L:List Tok) (i:Nat):EZ L i (exprP L i):=by
 unfold exprP;rcases MJ L i with⟨h,_⟩|⟨x,_,_,_,_,tq,h,h1,h2⟩
 ·rw[if_neg h];exact h
 ·rw[h];exact⟨by simpa using h1,by simpa using h2⟩
theorem Aq {α β:Type} {L:List Tok} {i:Nat} {r:RS α} {k:α->Nat->RS β} (h:EZ L i r) (hk:∀a j,r=.ok a j->JH L j (k a j)):EZ L i (r.bind k):=by
 cases r with
 |bad e p=>exact h
 |ok a j=>
  have:=hk a j rfl;have h1:=h.1;simp only[RS.bind_ok];cases hr:k a j with
  |ok b tq=>rw[hr]at this;exact⟨by have:=this.1;omega,this.2⟩
  |bad e p=>rw[hr]at this;exact this
theorem FC {α:Type} {L:List Tok} {j:Nat} (a:α) (h:j<=L.length):JH L j (RS.ok a j):=⟨Nat.le_refl _,h⟩
theorem EZ.tq {α:Type} {L:List Tok} {i j:Nat} {a:α} {r:RS α} (h:EZ L i r) (e:r=.ok a j):j<=L.length:=by subst e;exact h.2
theorem VP (L:List Tok) (k:Nat) (pl:Int) (i:Nat) (hi:i<=L.length):JH L i (Di L k pl i):=by
 unfold Di
 repeat' split
 ·exact(Aq (Ao L i) fun r j _=>(Aq (Ab L j _) fun _ j _=>(Aq (BO L j) fun e j he=>FC _ ((BO L _).tq he)).le).le).le
 ·exact(Aq (Ao L i) fun r j _=>(Aq (Ab L j _) fun _ j _=>(Aq (Ao L j) fun e j he=>FC _ ((Ao L _).tq he)).le).le).le
 ·exact(Aq (Ao L i) fun r j _=>(Aq (Ab L j _) fun _ j _=>(Aq (BO L j) fun e j he=>FC _ ((BO L _).tq he)).le).le).le
 ·exact(Aq (Ao L i) fun r j _=>(Aq (Ab L j _) fun _ j _=>(Aq (Ao L j) fun e j _=>(Aq (Ab L j _) fun _ j _=>(Aq (BO L j) fun e j _=>(Aq (Ab L j _) fun _ j _=>(Aq (BO L j) fun e j he=>FC _ ((BO L _).tq he)).le).le).le).le).le).le).le
 ·exact(Aq (Ao L i) fun r j he=>FC _ ((Ao L _).tq he)).le
 ·exact(Aq (BO L i) fun r j he=>FC _ ((BO L _).tq he)).le
 ·exact(Aq (I3 L i) fun r j he=>FC _ ((I3 L _).tq he)).le
 ·exact FC _ hi
theorem FR (L:List Tok) (i:Nat):Aj L i=1\/(2<=Aj L i/\Aj L i<=14/\isB L i (CM.getD (Aj L i) [])=true):=by
 unfold Aj;cases h:(List.range 15).find? (fun k=>decide (2<=k)&&isB L i (CM.getD k []))with
 |none=>exact .inl rfl
 |some k=>
  have h1:=List.find?_some h;have h2:=List.mem_of_find?_eq_some h;simp only[Bool.and_eq_true,decide_eq_true_eq]at h1;rw[List.mem_range]at h2;exact .inr ⟨h1.1,by show k<=14;omega,h1.2⟩
theorem Wq (L:List Tok) (i:Nat):1<=Aj L i/\Aj L i<=14:=by
 rcases FR L i with h|⟨h1,h2,_⟩<;>omega
theorem Ti (L:List Tok) (pl:Int) (i:Nat):EZ L i (Di L 1 pl i):=by
 unfold Di;rw[if_pos rfl];exact Aq (Ao L i) fun r j _=>(Aq (Ab L j _) fun _ j _=>(Aq (BO L j) fun e j he=>FC _ ((BO L _).tq he)).le).le
def Ds (L:List Tok) (i:Nat):RS Stm:=Di L (Aj L i) (AN L i) (if Aj L i=1 then i else i+1)
theorem Gy (L:List Tok) (i:Nat):EZ L i (Ds L i):=by
 unfold Ds;rcases FR L i with h|⟨h1,h2,h3⟩
 ·rw[h,if_pos rfl];exact Ti L _ i
 ·rw[if_neg (by omega)];have:=VP L (Aj L i) (AN L i) (i+1) (Bl h3);cases hp:Di L (Aj L i) (AN L i) (i+1)with
  |ok a tq=>rw[hp]at this;exact⟨by have:=this.1;omega,this.2⟩
  |bad e p=>rw[hp]at this;exact this
def K8 (L:List Tok) (row:DF):Prop:=∀i d l r,i<=L.length->row i d l=some r->JH L i r
theorem G9 {L:List Tok} {row:DF} (hr:K8 L row) {i d l:Nat} {r:RS Bk} (h:CB row L i d l=some r):EZ L i r:=by
 unfold CB at h;split at h
 ·simp at h;subst h;exact GH (by omega)
 ·rcases RS.obind_some h with⟨_,j,h1,h2⟩|⟨e,p,h1,rfl⟩
  ·have a1:=Ab L i [123];simp at h1;rw[h1]at a1;rcases RS.obind_some h2 with⟨b,j2,h3,h4⟩|⟨e,p,h3,rfl⟩
   ·have a2:=hr _ _ _ _ a1.2 h3;rcases RS.obind_some h4 with⟨_,j3,h5,h6⟩|⟨e,p,h5,rfl⟩
    ·have a3:=Ab L j2 [125];simp at h5;rw[h5]at a3;simp at h6;subst h6;have b1:=a1.1;have b2:=a2.1;have b3:=a3.1;exact⟨by omega,a3.2⟩
    ·have a3:=Ab L j2 [125];simp at h5;rw[h5]at a3;exact a3
   ·exact hr _ _ _ _ a1.2 h3
  ·have a1:=Ab L i [123];simp at h1;rw[h1]at a1;exact a1
theorem QS {L:List Tok} {row:DF} (hr:K8 L row) {k i d l:Nat} {r:RS Bk} (hi:i<=L.length) (h:EF row L k i d l=some r):JH L i r:=by
 unfold EF at h;split at h
 ·have:=G9 hr h;cases r with
  |ok b tq=>exact⟨by have:=this.1;omega,this.2⟩
  |bad e p=>exact this
 ·simp at h;subst h;exact⟨Nat.le_refl _,hi⟩
theorem JZ {L:List Tok} {row:DF} (hr:K8 L row) {i d l:Nat} {r:RS YG} (h:G8 row L i d l=some r):EZ L i r:=by
 unfold G8 at h;split at h
 ·simp at h;subst h;exact GH (by omega)
 ·have a1:=Gy L i;unfold Ds at a1;rcases RS.obind_some h with⟨s,j,h1,h2⟩|⟨e,p,h1,rfl⟩
  ·simp at h1;rw[h1]at a1;have b1:=a1.1;split at h2
   ·rcases RS.obind_some h2 with⟨_,j2,h3,h4⟩|⟨e,p,h3,rfl⟩
    ·have a2:=Ab L j [59];simp at h3;rw[h3]at a2;simp at h4;subst h4;exact⟨by have:=a2.1;omega,a2.2⟩
    ·have a2:=Ab L j [59];simp at h3;rw[h3]at a2;exact a2
   ·rcases RS.obind_some h2 with⟨b,j2,h3,h4⟩|⟨e,p,h3,rfl⟩
    ·have a2:=G9 hr h3;rcases RS.obind_some h4 with⟨e,j3,h5,h6⟩|⟨e,p,h5,rfl⟩
     ·have a3:=QS hr a2.2 h5;simp at h6;subst h6;have b2:=a2.1;have b3:=a3.1;exact⟨by omega,a3.2⟩
     ·exact QS hr a2.2 h5
    ·exact G9 hr h3
  ·simp at h1;rw[h1]at a1;exact a1
theorem Dk (L:List Tok) (f i d l:Nat):C7 L (f+1) i d l=if isB L i [125]=true then some (.ok .nil i)
  else RS.obind (G8 (C7 L f) L i d l) fun o j=>RS.obind (C7 L f j d l) fun r j=>some (.ok (.cons o.s o.b o.e r) j):=rfl
theorem FT (L:List Tok):∀f,K8 L (C7 L f):=by
 intro f
 induction f with
 |zero=>intro i d l r _ h;simp[C7]at h
 |succ f ih=>
  intro i d l r hi h;rw[Dk]at h;split at h
  ·simp at h;subst h;exact⟨Nat.le_refl _,hi⟩
  ·rcases RS.obind_some h with⟨o,j,h1,h2⟩|⟨e,p,h1,rfl⟩
   ·have a1:=JZ ih h1;rcases RS.obind_some h2 with⟨t,j2,h3,h4⟩|⟨e,p,h3,rfl⟩
    ·have a2:=ih _ _ _ _ a1.2 h3;simp at h4;subst h4;have b1:=a1.1;have b2:=a2.1;exact⟨by omega,a2.2⟩
    ·have a2:JH L j (.bad e p:RS Bk):=ih _ _ _ _ a1.2 h3;exact(show e≠0 from a2)
   ·have a1:EZ L i (.bad e p:RS YG):=JZ ih h1;exact(show e≠0 from a1)
def NM (row row':DF):Prop:=∀i d l r,row i d l=some r->row' i d l=some r
theorem Fv {α β:Type} {o o':Option (RS α)} {k k':α->Nat->Option (RS β)} {r:RS β} (ho:∀r,o=some r->o'=some r) (hk:∀a j,o=some (.ok a j)->∀r,k a j=some r->k' a j=some r) (h:RS.obind o k=some r):RS.obind o' k'=some r:=by
 rcases RS.obind_some h with⟨a,tq,h1,h2⟩|⟨e,p,h1,rfl⟩
 ·rw[ho _ h1];exact hk a tq h1 _ h2
 ·rw[ho _ h1];rfl
theorem Ih {L:List Tok} {row row':DF} (hm:NM row row') {i d l:Nat} {r:RS Bk} (h:CB row L i d l=some r):CB row' L i d l=some r:=by
 unfold CB at h⊢;split at h
 ·rename_i hc;rw[if_pos hc];exact h
 ·rename_i hc;rw[if_neg hc]
  exact Fv (fun _ h=>h) (fun _ j _ _ h=>Fv (fun _ h=>hm _ _ _ _ h) (fun _ _ _ _ h=>h) h) h
theorem SH {L:List Tok} {row row':DF} (hm:NM row row') {k i d l:Nat} {r:RS Bk} (h:EF row L k i d l=some r):EF row' L k i d l=some r:=by
 unfold EF at h⊢;split at h
 ·rename_i hc;rw[if_pos hc];exact Ih hm h
 ·rename_i hc;rw[if_neg hc];exact h
theorem QBr {L:List Tok} {row row':DF} (hm:NM row row') {i d l:Nat} {r:RS YG} (h:G8 row L i d l=some r):G8 row' L i d l=some r:=by
 unfold G8 at h⊢;split at h
 ·rename_i hc;rw[if_pos hc];exact h
 ·rename_i hc;rw[if_neg hc]
  refine Fv (fun _ h=>h) (fun s j _ r h=>?_) h;split at h
  ·rename_i hb;rw[if_pos hb];exact h
  ·rename_i hb;rw[if_neg hb]
   exact Fv (fun _ h=>Ih hm h) (fun _ j _ _ h=>Fv (fun _ h=>SH hm h) (fun _ _ _ _ h=>h) h) h
theorem Tj (L:List Tok):∀f,NM (C7 L f) (C7 L (f+1)):=by
 intro f
 induction f with
 |zero=>intro i d l r h;simp[C7]at h
 |succ f ih=>
  intro i d l r h;rw[Dk]at h⊢;split at h
  ·rename_i hc;rw[if_pos hc];exact h
  ·rename_i hc;rw[if_neg hc]
   exact Fv (fun _ h=>QBr ih h) (fun _ j _ _ h=>Fv (fun _ h=>ih _ _ _ _ h) (fun _ _ _ _ h=>h) h) h
theorem Ii (L:List Tok) {f g:Nat} (hfg:f<=g):NM (C7 L f) (C7 L g):=by
 induction g with
 |zero=>
  obtain rfl:f=0:=(by omega)
  exact fun _ _ _ _ h=>h
 |succ g ih=>
  by_cases e:f=g+1
  ·subst e;exact fun _ _ _ _ h=>h
  ·exact fun i d l r h=>Tj L g _ _ _ _ (ih (by omega) _ _ _ _ h)
theorem AW {α β:Type} {o:Option (RS α)} {k:α->Nat->Option (RS β)} (ho:∃r,o=some r) (hk:∀a j,o=some (.ok a j)->∃r,k a j=some r):∃r,RS.obind o k=some r:=by
 obtain⟨r,rfl⟩:=ho;cases r with
 |ok a tq=>exact hk a tq rfl
 |bad e p=>exact⟨_,rfl⟩
def QT (L:List Tok) (row:DF) (i:Nat):Prop:=∀j d l,i<j->j<=L.length->∃r,row j d l=some r
theorem Oy {L:List Tok} {row:DF} {i:Nat} (ht:QT L row i) {j d l:Nat} (hij:i<=j):∃r,CB row L j d l=some r:=by
 unfold CB;split
 ·exact⟨_,rfl⟩
 ·refine AW ⟨_,rfl⟩ fun _ j2 h=>?_
  have a:=Ab L j [123];simp at h;rw[h]at a;refine AW (ht _ _ _ (by have:=a.1;omega) a.2) fun b j3 _=>AW ⟨_,rfl⟩ fun _ j4 _=>⟨_,rfl⟩
theorem Zb {L:List Tok} {row:DF} (hr:K8 L row) {i:Nat} (ht:QT L row i) {d l:Nat}:∃r,G8 row L i d l=some r:=by
 unfold G8;split
 ·exact⟨_,rfl⟩
 ·refine AW ⟨_,rfl⟩ fun s j h=>?_
  have a:=Gy L i;unfold Ds at a;simp at h;rw[h]at a;have b:=a.1;split
  ·exact AW ⟨_,rfl⟩ fun _ j2 _=>⟨_,rfl⟩
  ·refine AW (Oy ht (by omega)) fun b j2 h2=>AW ?_ fun e j3 _=>⟨_,rfl⟩
   have a2:=G9 hr h2;unfold EF;split
   ·exact Oy ht (by have:=a2.1;omega)
   ·exact⟨_,rfl⟩
theorem OM (L:List Tok):∀f i d l,i<=L.length->L.length-i+1<=f->∃r,C7 L f i d l=some r:=by
 intro f
 induction f with
 |zero=>intro i d l _ h;omega
 |succ f ih=>
  intro i d l hi h;rw[Dk];split
  ·exact⟨_,rfl⟩
  ·have ht:QT L (C7 L f) i:=fun j d l h1 h2=>ih j d l h2 (by omega)
   refine AW (Zb (FT L f) ht) fun o j h1=>?_
   have a:=JZ (FT L f) h1;exact AW (ht _ _ _ a.1 a.2) fun t j2 _=>⟨_,rfl⟩
def Fa (L:List Tok) (i d l:Nat):RS Bk:=(CB (C7 L (L.length+1)) L i d l).getD (.bad 0 0)
theorem Oz (L:List Tok) (i d l:Nat):CB (C7 L (L.length+1)) L i d l=some (Fa L i d l):=by
 have:∃r,CB (C7 L (L.length+1)) L i d l=some r:=by
  unfold CB;split
  ·exact⟨_,rfl⟩
  ·refine AW ⟨_,rfl⟩ fun _ j2 h=>?_
   have a:=Ab L i [123];simp at h;rw[h]at a;exact AW (OM L _ _ _ _ a.2 (by omega)) fun b j3 _=>AW ⟨_,rfl⟩ fun _ j4 _=>⟨_,rfl⟩
 obtain⟨r,hr⟩:=this;unfold Fa;rw[hr];rfl
theorem ON {L:List Tok} {f i d l:Nat} {r:RS Bk} (h:CB (C7 L f) L i d l=some r):Fa L i d l=r:=by
 have h1:=Ih (Ii L (Nat.le_max_left f (L.length+1))) h;have h2:=Ih (Ii L (Nat.le_max_right f (L.length+1))) (Oz L i d l);rw[h1]at h2;exact(Option.some.inj h2).symm
structure ParsedS where
 stmts:List Stm
 tq:Int
 err:Int
 pl:Int
def QBs (L:List Tok) (i:Int):RS Bk->ParsedS
 |.bad e p=>⟨[],0,e,p⟩
 |.ok b tq=>if 40<b.count then⟨[],0,2,AN L i⟩else⟨b.flat,tq,0,0⟩
def FD (L:List Tok) (i:Int):ParsedS:=if i<0 then⟨[],0,1,0⟩else QBs L i (Fa L i.toNat 0 0)
theorem VQ {α β:Type} {r:RS α} {k:α->Nat->RS β} {b:β} {j:Nat} (h:r.bind k=.ok b j):∃a i,r=.ok a i/\k a i=.ok b j:=by
 cases r with
 |ok a i=>exact⟨a,i,rfl,h⟩
 |bad e p=>cases h
theorem Zc:∀k:Fin 15,1<=k.1->(Ie (k.1:Nat) 114=decide (k.1=1\/k.1=2\/k.1=4))/\(Ie (k.1:Nat) 110=decide (k.1=2\/k.1=3\/k.1=4\/k.1=5\/k.1=6\/k.1=9\/k.1=10))/\(Ie (k.1:Nat) 101=decide (k.1=1\/k.1=3\/k.1=4\/k.1=11\/k.1=14))/\(Ie (k.1:Nat) 102=decide (k.1=4))/\(Ie (k.1:Nat) 107=decide (k.1=12)):=by decide
theorem La {x:Stm} {k:Nat} (hk:x.kind=k) (h:EY x=true):1<=k/\k<=14/\(0<=x.pl/\x.pl<=4000)/\
  (if k=1\/k=2\/k=4 then nameB x.reg else x.reg.isEmpty)=true/\
  (if k=2\/k=3\/k=4\/k=5\/k=6\/k=9\/k=10 then nameB x.name else x.name.isEmpty)=true/\
  (if k=1\/k=3\/k=4\/k=11\/k=14 then Bm x.e else x.e.isEmpty)=true/\
  (if k=4 then Bm x.f else x.f.isEmpty)=true/\
  (if k=12 then decide (1<=x.n)&&decide (x.n<=8)else decide (x.n=0))=true:=by
 unfold EY at h;rw[hk]at h;simp only[Bool.and_eq_true,decide_eq_true_eq]at h;obtain⟨⟨⟨⟨⟨⟨⟨⟨h1,h2⟩,h3⟩,h4⟩,h5⟩,h6⟩,h7⟩,h8⟩,h9⟩:=h;obtain⟨t1,t2,t3,t4,t5⟩:=Zc ⟨k,by omega⟩ (by show 1<=k;omega);simp only at t1 t2 t3 t4 t5;rw[t1]at h5;rw[t2]at h6;rw[t3]at h7;rw[t4]at h8;rw[t5]at h9;simp only[decide_eq_true_eq]at h5 h6 h7 h8 h9;refine⟨by omega,by omega,⟨h3,h4⟩,h5,h6,h7,h8,?_⟩;split at h9
 ·rename_i hc;rw[if_pos hc];simpa using h9
 ·rename_i hc;rw[if_neg hc];simpa using h9
theorem Ij {x:Stm} (h:EY x=true):∃k:Nat,x.kind=k/\1<=k/\k<=14:=by
 unfold EY at h;simp only[Bool.and_eq_true,decide_eq_true_eq]at h;exact⟨x.kind.toNat,by omega,by omega,by omega⟩
theorem IT {s:Stm} {b e r:Bk}:H5 (.cons s b e r)↔s.body=b.count/\s.els=e.count/\(0<b.count->Hq s.kind)/\(0<e.count->s.kind=11)/\EY s=true/\H5 b/\H5 e/\H5 r:=by
 unfold H5;simp only[Bk.fit,Bk.flat,List.all_cons,List.all_append,Bool.and_eq_true];constructor
 ·rintro⟨⟨h1,h2,h3,h4,h5,h6,h7⟩,h8,h9,h10,h11⟩;exact⟨h1,h2,h3,h4,h8,⟨h5,h9⟩,⟨h6,h10⟩,⟨h7,h11⟩⟩
 ·rintro⟨h1,h2,h3,h4,h8,⟨h5,h9⟩,⟨h6,h10⟩,⟨h7,h11⟩⟩;exact⟨⟨h1,h2,h3,h4,h5,h6,h7⟩,h8,h9,h10,h11⟩
end Go.Proofs.YthfkpalfopdmhaaGreatDoor
namespace Go.Proofs.YthfkpalfopdmhaaGreatDoor
open Go.RowKit
def Rb (x:Stm) (vE vF:Value):Value:=.agg #[.int .i64 x.kind,.string ⟨x.reg.toArray⟩,.string ⟨x.name.toArray⟩,vE,vF,.int .i64 x.n,.int .i64 x.body,.int .i64 x.els,.int .i64 x.pl]
def Fb (x:Stm):Prop:=x.reg.length<=100000/\x.name.length<=100000/\x.e.length<=10000/\x.f.length<=10000/\Ej x.e/\Ej x.f
structure Zd (W:World) (g:Nat) (a b c d e f h i j:Value):Prop where
 lt:g<W.heap.size
 c0:W.cell? ⟨g,0,none⟩=some a
 c1:W.cell? ⟨g,1,none⟩=some b
 c2:W.cell? ⟨g,2,none⟩=some c
 c3:W.cell? ⟨g,3,none⟩=some d
 c4:W.cell? ⟨g,4,none⟩=some e
 c5:W.cell? ⟨g,5,none⟩=some f
 c6:W.cell? ⟨g,6,none⟩=some h
 c7:W.cell? ⟨g,7,none⟩=some i
 c8:W.cell? ⟨g,8,none⟩=some j
theorem Ea (w:World) (a b c d e f h i j:Value) (t:TypeId):Zd (w.alloc (.cells #[a,b,c,d,e,f,h,i,j] t)) w.heap.size a b c d e f h i j:=⟨by simp,by simp,by simp,by simp,by simp,by simp,by simp,by simp,by simp,by simp⟩
theorem Zd.on {W W':World} {g:Nat} {a b c d e f h i j:Value} (k:Zd W g a b c d e f h i j) (hb:Below W.heap.size W W'):Zd W' g a b c d e f h i j:=by
 obtain⟨lt,c0,c1,c2,c3,c4,c5,c6,c7,c8⟩:=k;have e:∀q,W'.cell? ⟨g,q,none⟩=W.cell? ⟨g,q,none⟩:=fun q=>hb.cell (p:=⟨g,q,none⟩) lt
 exact⟨Nat.lt_of_lt_of_le lt hb.size,by rw[e,c0],by rw[e,c1],by rw[e,c2],by rw[e,c3],by rw[e,c4],by rw[e,c5],by rw[e,c6],by rw[e,c7],by rw[e,c8]⟩
structure At9 (w:World) (g o:Nat) (t:Stm) (AE:Option Addr) (nE cE:Nat) (AF:Option Addr) (nF cF:Nat):Prop where
 lt:g<w.heap.size
 c0:w.cell? ⟨g,o,none⟩=some (.int .i64 t.kind)
 c1:w.cell? ⟨g,o+1,none⟩=some (.string ⟨t.reg.toArray⟩)
 c2:w.cell? ⟨g,o+2,none⟩=some (.string ⟨t.name.toArray⟩)
 c3:w.cell? ⟨g,o+3,none⟩=some (.slice AE nE cE)
 c4:w.cell? ⟨g,o+4,none⟩=some (.slice AF nF cF)
 c5:w.cell? ⟨g,o+5,none⟩=some (.int .i64 t.n)
 c6:w.cell? ⟨g,o+6,none⟩=some (.int .i64 t.body)
 c7:w.cell? ⟨g,o+7,none⟩=some (.int .i64 t.els)
 c8:w.cell? ⟨g,o+8,none⟩=some (.int .i64 t.pl)
 re:Ax w (.slice AE nE cE) t.e
 rf:Ax w (.slice AF nF cF) t.f
theorem At9.on {w w':World} {g o:Nat} {t:Stm} {AE:Option Addr} {nE cE:Nat} {AF:Option Addr} {nF cF:Nat} (h:At9 w g o t AE nE cE AF nF cF) (hb:Below w.heap.size w w'):At9 w' g o t AE nE cE AF nF cF:=by
 obtain⟨lt,c0,c1,c2,c3,c4,c5,c6,c7,c8,re,rf⟩:=h;have e:∀q,w'.cell? ⟨g,q,none⟩=w.cell? ⟨g,q,none⟩:=fun q=>hb.cell (p:=⟨g,q,none⟩) lt
 exact⟨Nat.lt_of_lt_of_le lt hb.size,by rw[e,c0],by rw[e,c1],by rw[e,c2],by rw[e,c3],by rw[e,c4],by rw[e,c5],by rw[e,c6],by rw[e,c7],by rw[e,c8],re.on hb,rf.on hb⟩
def BG (w:World) (v:Value) (L:List Stm):Prop:=
 ∃A c,v=.slice A L.length c/\L.length<=c/\c<=maxLen/\(∀i t,L[i]?=some t->∃g o AE nE cE AF nF cF,A=some ⟨g,o,none⟩/\At9 w g (o+i*9) t AE nE cE AF nF cF)
theorem BG.on {w w':World} {v:Value} {L:List Stm} (h:BG w v L) (hb:Below w.heap.size w w'):BG w' v L:=by
 obtain⟨A,c,hv,hc,hm,hr⟩:=h;refine⟨A,c,hv,hc,hm,fun i t hi=>?_⟩;obtain⟨g,o,AE,nE,cE,AF,nF,cF,hA,h9⟩:=hr i t hi;exact⟨g,o,AE,nE,cE,AF,nF,cF,hA,h9.on hb⟩
theorem BG.part {w:World} {g o n c k j:Nat} {L:List Stm} (h:BG w (.slice (some ⟨g,o,none⟩) n c) L) (hk:k<=j) (ht:j<=n):BG w (.slice (some ⟨g,o+k*9,none⟩) (j-k) (c-k)) ((L.take j).drop k):=by
 obtain⟨A,c',hv,hc,hm,hr⟩:=h;simp only[Value.slice.injEq]at hv;obtain⟨rfl,rfl,rfl⟩:=hv;refine⟨_,_,by rw[List.length_drop,List.length_take,Nat.min_eq_left ht],by rw[List.length_drop,List.length_take,Nat.min_eq_left ht];omega,by omega,fun i t hi=>?_⟩;rw[List.getElem?_drop,List.getElem?_take]at hi;split at hi
 ·obtain⟨g',o',AE,nE,cE,AF,nF,cF,hA,h9⟩:=hr (k+i) t hi;simp only[Option.some.injEq,Addr.mk.injEq]at hA;obtain⟨rfl,rfl,_⟩:=hA;rw[show o+(k+i)*9=o+k*9+i*9 from by omega]at h9;exact⟨g,o+k*9,AE,nE,cE,AF,nF,cF,rfl,h9⟩
 ·cases hi
theorem Ws (w:World):BG w (.slice none 0 0) []:=⟨none,0,rfl,Nat.le_refl _,Nat.zero_le _,fun i t h=>by simp at h⟩
def QF0 (x:Stm) (l n:Nat):Prop:=JF x n/\¬(x.kind=13/\l=0)
instance (x:Stm) (l n:Nat):Decidable (QF0 x l n):=inferInstanceAs (Decidable (_/\¬_))
theorem QU (x:Stm) (r:List Stm):Dp (x::r)=if JF x r.length then
   match Dp (Dn x r),Dp (Db x r),Dp (Do x r)with
   |some b,some e,some t=>some (.cons x b e t)
   |_,_,_=>none
  else none:=by
 show Hz (r.length+1) (x::r)=_;unfold Hz;split
 ·rename_i h
  obtain⟨h1,h2,h3⟩:=OG h;have hh:=h;obtain⟨g1,g2,_⟩:=hh;rw[QG (by omega),QG (by omega),QG (by omega)];cases Dp (Dn x r)<;>cases Dp (Db x r)<;>cases Dp (Do x r)<;>rfl
 ·rfl
theorem Ww {k:Nat} (h:k<15):QFy k=Dh k:=by
 have:∀k:Fin 15,QFy (k.1:Int)=Dh k.1:=by decide
 exact this ⟨k,h⟩
theorem BG.cutAt {w:World} {g o n c k j m d:Nat} {L M:List Stm} {A:Option Addr} (h:BG w (.slice (some ⟨g,o,none⟩) n c) L) (hk:k<=j) (ht:j<=n) (hm:m=j-k) (hd:d=c-k) (hA:k<c->A=some ⟨g,o+k*9,none⟩) (hM:M=(L.take j).drop k):BG w (.slice A m d) M:=by
 subst hm hd hM;by_cases hc:k<c
 ·rw[hA hc];exact h.part hk ht
 ·obtain⟨A',c',hv,hc',hm,hr⟩:=h;simp only[Value.slice.injEq]at hv;obtain⟨rfl,rfl,rfl⟩:=hv;have hz:((L.take j).drop k).length=0:=by rw[List.length_drop,List.length_take];omega
  rw[List.length_eq_zero_iff.1 hz];refine⟨A,c-k,by rw[show j-k=0 from by omega];rfl,Nat.zero_le _,by omega,fun i t h=>by simp at h⟩
def QF1 (L M N:List Stm) (w:World) (e:Ending) (w':World):Prop:=
 ∃v1 v2 v3,e=.returned (.tuple #[v1,v2,v3])/\BG w' v1 L/\BG w' v2 M/\BG w' v3 N/\Below w.heap.size w w'
set_option maxRecDepth 100000 in
set_option maxHeartbeats 4000000 in
theorem LA (v:Value) (x:Stm) (r:List Stm) (w:World) (h:BG w v (x::r)) (hh:JF x r.length) (hl:r.length<=10000):Calls Tryz.prog 205 #[v] w (QF1 (Dn x r) (Db x r) (Do x r) w):=by
 have HL:=AA h;obtain⟨A,c,rfl,hc,hm,hr⟩:=h;obtain⟨g,o,AE,nE,cE,AF,nF,cF,rfl,h9⟩:=hr 0 x rfl;obtain⟨lt9,x0,x1,x2,x3,x4,x5,x6,x7,x8,_,_⟩:=h9;clear hr x0 x1 x2 x3 x4 x5 x8;obtain⟨h1,h2,h3,_⟩:=hh;obtain⟨b,hb⟩:∃b:Nat,x.body=b:=⟨x.body.toNat,by omega⟩
 obtain⟨e,he⟩:∃e:Nat,x.els=e:=⟨x.els.toNat,by omega⟩
 rw[hb]at x6 h3;rw[he]at x7 h3;have HB:=AA hb;have HE:=AA he;clear hb he h1 h2;have hlen:(x::r).length=r.length+1:=rfl;rw[hlen]at hc⊢;have hbe:b+e<=r.length:=by omega
 unfold maxLen at hm;simp only[Nat.zero_mul,Nat.add_zero]at x6 x7;have i1:IntKind.i64.wrap (1+(b:Int))=1+b:=IntWalk.i64_in _ (by omega);have i2:IntKind.i64.wrap (1+(b:Int)+e)=1+b+e:=IntWalk.i64_in _ (by omega);go_enter Tryz.func205,Tryz.ntmps205;go_wp2_with fail
 go_quiet (fail)
 generalize hA1:(if c=1 then some (⟨g,o,none⟩:Addr)else some ⟨g,o+9,none⟩)=A1;generalize hA2:(if c=1+b then some (⟨g,o,none⟩:Addr)else some ⟨g,o+(1+b)*9,none⟩)=A2;generalize hA3:(if c=1+b+e then some (⟨g,o,none⟩:Addr)else some ⟨g,o+(1+b+e)*9,none⟩)=A3;have eb:x.body.toNat=b:=by have:=HB.out;omega
 have ee:x.els.toNat=e:=by have:=HE.out;omega
 have g1:BG w (.slice A1 (1+b-1) (c-1)) (Dn x r):=HL.out.cutAt (k:=1) (j:=1+b) (by omega) (by rw[hlen];omega) rfl rfl (fun hk=>by rw[<-hA1,if_neg (by omega),Nat.one_mul]) (by unfold Dn;rw[eb,Nat.add_comm 1 b];rfl);have g2:BG w (.slice A2 (1+b+e-(1+b)) (c-(1+b))) (Db x r):=HL.out.cutAt (k:=1+b) (j:=1+b+e) (by omega) (by rw[hlen];omega) rfl rfl (fun hk=>by rw[<-hA2,if_neg (by omega)]) (by
  unfold Db;rw[eb,ee,show 1+b+e=(b+e)+1 from by omega,Nat.add_comm 1 b];show _=(r.take (b+e)).drop b;rw[List.drop_take];congr 1;omega)
 have g3:BG w (.slice A3 (r.length+1-(1+b+e)) (c-(1+b+e))) (Do x r):=HL.out.cutAt (k:=1+b+e) (j:=r.length+1) (by omega) (by rw[hlen];omega) rfl rfl (fun hk=>by rw[<-hA3,if_neg (by omega)]) (by
  unfold Do;rw[eb,ee,show 1+b+e=(b+e)+1 from by omega];show _=((r.take r.length).drop (b+e))
  rw[List.take_length])
 have G1:=AA g1;have G2:=AA g2;have G3:=AA g3;clear g1 g2 g3 hA1 hA2 hA3;go_wp2_with fail
 refine bodyPost_ret (v:=.tuple #[.slice A1 (1+b-1) (c-1),.slice A2 (1+b+e-(1+b)) (c-(1+b)),.slice A3 (r.length+1-(1+b+e)) (c-(1+b+e))]) (by simp[results,Tryz.results205,go_sem]) rfl ?_;exact⟨_,_,_,rfl,G1.out.on (AM _ _),G2.out.on (AM _ _),G3.out.on (AM _ _),AM _ _⟩
end Go.Proofs.YthfkpalfopdmhaaGreatDoor

/- Texts of the walk, packed. -/
import Derived.Test.YthfkpalfopdmhaaGreatDoorY13
import Derived.Test.YthfkpalfopdmhaaGreatDoorY10
import Derived.Deep.CutRange
import Derived.Deep.RegionHeld3
import Derived.Deep.DrawnRows
import Derived.Test.YthfkpalfopdmhaaGreatDoorY00
namespace Go.Proofs.YthfkpalfopdmhaaGreatDoor
open Go.RowKit
theorem V5 (L:List Tok) (f:Nat) (hl:L.length≤10000) (hc:∀f',f'≤f→Gp L f') (hs:Gn L f):Gp L (f+1):=by
 intro b i d r g v w hb hb2 hd hr h
 rw[Ax]at hr
 by_cases h6:b=6
 ·rw[if_pos h6]at hr
  subst h6
  exact Yl L f hs i d r g v w hd hr h
 ·rw[if_neg h6]at hr
  cases hch:Ax L f (b+1) i d with
  |none=>rw[hch]at hr;cases hr
  |some r1=>
   refine V4 L f hl hc b i d r1 r g v w hb (by omega) hd hch ?_ h
   rw[hch]at hr
   cases r1 with
   |ok x tq=>exact hr
   |bad e j=>simp at hr;exact hr.symm
theorem QAs (L:List Tok) (hl:L.length≤10000) (hsm:Gk L):∀f,(∀f',f'≤f→Gp L f')∧Gn L f:=by
 intro f
 induction f with
 |zero=>
  refine⟨fun f' hf'=>?_,fun i d r g v w _ hr=>by simp[BX]at hr⟩
  obtain rfl:f'=0:=by omega
  exact fun b i d r g v w _ _ _ hr=>by simp[Ax]at hr
 |succ f ih=>
  refine⟨fun f' hf'=>?_,Ue L f hl hsm (ih.1 f (Nat.le_refl _)) ih.2⟩
  by_cases e:f'=f+1
  ·subst e;exact V5 L f hl ih.1 ih.2
  ·exact ih.1 f' (by omega)
def QAt (q:Parsed) (w:World) (e:Ending) (w':World):Prop:=
 ∃v,e=.returned (.tuple #[v,.int .i64 q.tq,.int .i64 q.err,.int .i64 q.pl])∧CE w' w.heap.size v q.nodes∧Below w.heap.size w w'
theorem JW {q q':Parsed} {w w':World} {e:Ending} {v:Value} (he:e=.returned (.tuple #[v,.int .i64 q'.tq,.int .i64 q'.err,.int .i64 q'.pl])) (h:q=q') (ho:CE w' w.heap.size v q'.nodes) (hb:Below w.heap.size w w'):QAt q w e w':=by
 subst h;exact⟨v,he,ho,hb⟩
theorem QAu {L:List Tok} {v:Value} {i:Nat} {w:World} (h:Gf w v L) (ht:Tabs w):Sits L (w.alloc (.cells #[v,.int .i64 i,.int .i64 0] 236)) w.heap.size v i 0:=by
 have hb:=(Below.refl w.heap.size w).alloc (Nat.le_refl _) (.cells #[v,.int .i64 i,.int .i64 0] 236)
 refine⟨⟨by simp,by simp,by simp,by simp,by simp,by simp⟩,?_,ht.on hb,ht.lt2⟩
 obtain⟨A,c,hv,hc,hr⟩:=h
 refine⟨A,c,hv,hc,fun j t hj=>?_⟩
 obtain⟨b,hA,hbl,h0,h1,h2,h3⟩:=hr j t hj
 have e:∀o,(w.alloc (.cells #[v,.int .i64 i,.int .i64 0] 236)).cell? ⟨b,o,none⟩=w.cell? ⟨b,o,none⟩:=fun o=>hb.cell (p:=⟨b,o,none⟩) hbl
 exact⟨b,hA,hbl,(e _).trans h0,(e _).trans h1,(e _).trans h2,(e _).trans h3⟩
def Uh (L:List Tok) (i:Int):Res→Parsed
 |.bad e j=>⟨[],0,e,AT L j⟩
 |.ok x tq=>if 12<x.deep then⟨[],0,7,AT L i⟩else if 40<x.size then⟨[],0,2,AT L i⟩else⟨x.flat,tq,0,0⟩
theorem IQ (L:List Tok) (k:Nat):EH L k=Uh L k (F9 L k):=by
 unfold EH
 rw[if_neg (by omega),Int.toNat_natCast]
 cases F9 L k<;>rfl
theorem Lu {L:List Tok} {k:Int} {x:Ex} {tq:Nat} (h:12<x.deep):Uh L k (.ok x tq)=⟨[],0,7,AT L k⟩:=by
 show(if 12<x.deep then _ else _)=_
 rw[if_pos h]
theorem Np {L:List Tok} {k:Int} {x:Ex} {tq:Nat} (h:¬12<x.deep) (h2:40<x.size):Uh L k (.ok x tq)=⟨[],0,2,AT L k⟩:=by
 show(if 12<x.deep then _ else if 40<x.size then _ else _)=_
 rw[if_neg h,if_pos h2]
theorem Mc {L:List Tok} {k:Int} {x:Ex} {tq:Nat} (h:¬12<x.deep) (h2:¬40<x.size):Uh L k (.ok x tq)=⟨x.flat,tq,0,0⟩:=by
 show(if 12<x.deep then _ else if 40<x.size then _ else(⟨x.flat,tq,0,0⟩:Parsed))=_
 rw[if_neg h,if_neg h2]
set_option maxRecDepth 100000 in
set_option maxHeartbeats 4000000 in
theorem parse_any (v:Value) (L:List Tok) (i:Int) (w:World) (h:Gf w v L) (ht:Tabs w) (hl:L.length≤10000) (hsm:Gk L):Calls Tryz.prog 185 #[v,.int .i64 i] w (QAt (EH L i) w):=by
 by_cases hi:i<0
 ·have HQ:Hid (EH L i=⟨[],0,1,0⟩):=AA (by unfold EH;rw[if_pos hi])
  clear h
  go_enter Tryz.func185,Tryz.ntmps185
  go_wp2_with fail
  refine bodyPost_ret (v:=.tuple #[.slice none 0 0,.int .i64 0,.int .i64 1,.int .i64 (0)]) (by simp[results,Tryz.results185,go_sem]) rfl ?_
  exact JW (q':=⟨[],0,1,0⟩) rfl HQ.out (Ez _ _) (Below.refl _ _)
 ·obtain⟨k,rfl⟩:∃k:Nat,i=k:=⟨i.toNat,by omega⟩
  have HC:=AA (((QAs L hl hsm (20*(L.length-k)+12)).1 _ (Nat.le_refl _)) 1 k 0 (F9 L k) w.heap.size v _ (by omega) (by omega) (by omega) (Jr L k) (QAu h ht))
  have HF:=AA (KP L k)
  have HX:=AA (IQ L k)
  have HSM:=AA hsm
  have HR:=AA h
  obtain⟨A0,cc0,rfl,_,_⟩:=h
  clear ht hsm hi
  generalize F9 L k=r at *
  have hz:(w.alloc (.cells #[.slice A0 L.length cc0,.int .i64 k,.int .i64 0] 236)).heap.size=w.heap.size+1:=by simp
  have HB0:=AA ((Below.refl w.heap.size w).alloc (Nat.le_refl _) (.cells #[.slice A0 L.length cc0,.int .i64 k,.int .i64 0] 236))
  go_enter Tryz.func185,Tryz.ntmps185
  go_wp2_with fail
  refine HC.out.mono ?_
  rintro e w1 ⟨P,A,n,c,hP,rfl,ho,hS,hK⟩
  rw[hz]at ho
  have hbw:Below w.heap.size w w1:=HB0.out.trans (hK.below (Nat.le_refl _) (by rw[hz];omega))
  have HP:=AA hP
  have HO:=AA ho
  have HS:=AA hS
  have HB:=AA hbw
  have hgl:=hS.rd.lt
  obtain⟨⟨_,c0,c1,c2,f1,f2⟩,_,_,_⟩:=hS
  clear hP ho hK hbw hz HC HB0 c2 f1 f2
  cases r with
  |bad e j=>
   obtain⟨he,_⟩:=HF.out
   have he2:(e != 0)=true:=by rcases he with rfl|rfl|rfl<;>rfl
   clear he
   simp only[errOf,Gg]at *
   have HB2:=AA (HB.out.alloc HB.out.size (.cells #[.slice A n c,.int .i64 P.many,.int .i64 P.deep] 238))
   go_wp2_with fail
   refine(IN _ L j _ ((HR.out.on HB2.out)) hl HSM.out).mono ?_
   rintro e' w2 ⟨rfl,hb⟩
   go_wp2_with fail
   refine bodyPost_ret (v:=.tuple #[.slice none 0 0,.int .i64 0,.int .i64 e,.int .i64 (AT L j)]) (by simp[results,Tryz.results185,go_sem]) rfl ?_
   exact JW (q':=⟨[],0,e,AT L j⟩) rfl HX.out (Ez _ _) (AC HB2.out hb)
  |ok x tq=>
   obtain⟨h1,h2,h3,h4,h5⟩:=HF.out
   have hdz:=IO x
   obtain rfl:P=BM x:=HP.out
   have HB2:=AA (HB.out.alloc HB.out.size (.cells #[.slice A n c,.int .i64 (BM x).many,.int .i64 (BM x).deep] 238))
   have em:(BM x).many=x.size:=rfl
   have ed:(BM x).deep=x.deep:=rfl
   simp only[errOf,Gg,em,ed]at *
   clear em ed h5
   by_cases hd:12<x.deep
   ·have HX2:Hid (EH L k=⟨[],0,7,AT L k⟩):=AA (by rw[HX.out,Lu hd])
    have hdi:(12:Int)<(x.deep:Int):=by omega
    go_wp2_with fail
    refine(IN _ L k _ ((HR.out.on HB2.out)) hl HSM.out).mono ?_
    rintro e' w2 ⟨rfl,hb⟩
    go_wp2_with fail
    refine bodyPost_ret (v:=.tuple #[.slice none 0 0,.int .i64 0,.int .i64 7,.int .i64 (AT L k)]) (by simp[results,Tryz.results185,go_sem]) rfl ?_
    exact JW (q':=⟨[],0,7,AT L k⟩) rfl HX2.out (Ez _ _) (AC HB2.out hb)
   ·have hdi:¬(12:Int)<(x.deep:Int):=by omega
    by_cases hs:40<x.size
    ·have HX2:Hid (EH L k=⟨[],0,2,AT L k⟩):=AA (by rw[HX.out,Np hd hs])
     have hsi:(40:Int)<(x.size:Int):=by omega
     go_wp2_with fail
     refine(IN _ L k _ ((HR.out.on HB2.out)) hl HSM.out).mono ?_
     rintro e' w2 ⟨rfl,hb⟩
     go_wp2_with fail
     refine bodyPost_ret (v:=.tuple #[.slice none 0 0,.int .i64 0,.int .i64 2,.int .i64 (AT L k)]) (by simp[results,Tryz.results185,go_sem]) rfl ?_
     exact JW (q':=⟨[],0,2,AT L k⟩) rfl HX2.out (Ez _ _) (AC HB2.out hb)
    ·have HX2:Hid (EH L k=⟨x.flat,tq,0,0⟩):=AA (by rw[HX.out,Mc hd hs])
     have hsi:¬(40:Int)<(x.size:Int):=by omega
     have HO2:Hid (CE w1 w.heap.size (.slice A n c) x.flat):=AA (by
      have h0:=HO.out.base (B':=w.heap.size) (by omega)
      rw[show(BM x).ns=x.flat from by show(if x.size≤40 then x.flat else[])=_;rw[if_pos (by omega)]]at h0
      exact h0)
     go_wp2_with fail
     go_quiet (fail)
     go_wp2_with fail
     refine bodyPost_ret (v:=.tuple #[.slice A n c,.int .i64 tq,.int .i64 0,.int .i64 0]) (by simp[results,Tryz.results185,go_sem]) rfl ?_
     exact JW (q':=⟨x.flat,tq,0,0⟩) rfl HX2.out ((HO2.out.on ((Below.refl _ _).alloc (Nat.le_refl _) _)).on (AO _ _)) (HB2.out.trans (V3 _ _ _))
end Go.Proofs.YthfkpalfopdmhaaGreatDoor
namespace Go.Proofs.YthfkpalfopdmhaaGreatDoor
open Go
theorem IR:∀x:Ex,(E0 x).deep=x.deep
 |.leaf _=>rfl
 |.un _ x=>by simp only[E0,Ex.deep,IR x]
 |.bin _ x y=>by simp only[E0,Ex.deep,IR x,IR y]
theorem IS:∀x:Ex,(E0 x).size=x.size
 |.leaf _=>rfl
 |.un _ x=>by simp only[E0,Ex.size,IS x]
 |.bin _ x y=>by simp only[E0,Ex.size,IS x,IS y]
theorem GK:∀x:Ex,(E0 x).flat=x.flat.map bareN
 |.leaf _=>rfl
 |.un _ x=>by simp only[E0,Ex.flat,GK x,List.map_cons]
 |.bin _ x y=>by simp only[E0,Ex.flat,GK x,GK y,List.map_cons,List.map_append]
theorem eq_bare {a b:Nod} (h:bareN a=bareN b):EI false a b=true:=by
 have h1:a.op=b.op:=show(bareN a).op=(bareN b).op from by rw[h]
 have h2:a.n=b.n:=show(bareN a).n=(bareN b).n from by rw[h]
 have h3:a.name=b.name:=show(bareN a).name=(bareN b).name from by rw[h]
 simp[EI,h1,h2,h3]
theorem Nq:∀{L M:List Nod},L.map bareN=M.map bareN→ET false L M=true
 |[],[],_=>rfl
 |[],b::m,h=>by simp at h
 |a::l,[],h=>by simp at h
 |a::l,b::m,h=>by
  simp only[List.map_cons,List.cons.injEq]at h
  have ih:=Nq h.2
  unfold ET at *
  unfold Ad
  rw[eq_bare h.1,ih];rfl
theorem PX {l:List UInt8}:∀{L:List Tok} {e:Nat},JO l e L→∀t∈L,t.pl+t.text.length≤l.length∧0≤t.n∧t.n≤4294967296
 |[],_,_,t,h=>by simp at h
 |a::L,e,hp,t,h=>by
  obtain⟨h1,h2,h3,h4,h5,h6,h7,h8,h9⟩:=hp
  rcases List.mem_cons.1 h with rfl|h
  ·exact⟨h3,h7,h8⟩
  ·exact PX h9 t h
theorem Md {l:List UInt8}:∀{L:List Tok} {e:Nat},e≤l.length→JO l e L→L.length+e≤l.length
 |[],e,he,_=>by simpa using he
 |a::L,e,he,hp=>by
  obtain⟨h1,h2,h3,h4,h5,h6,h7,h8,h9⟩:=hp
  have:=Md h3 h9
  simp only[List.length_cons];omega
theorem J0 (l:List UInt8):(AS l 0).toks.length≤l.length∧∀t∈(AS l 0).toks,t.pl+t.text.length≤l.length∧0≤t.n∧t.n≤4294967296:=by
 have h:=UM l l 0 (Nat.zero_le _) rfl
 exact⟨by have:=Md (Nat.zero_le _) h;omega,PX h⟩
theorem Ko {L:List Tok} {n:Nat} (h:∀t∈L,t.pl+t.text.length≤n) (i:Int):0≤AT L i∧AT L i≤n:=by
 by_cases hi:0≤i∧i<L.length
 ·obtain⟨k,rfl⟩:∃k:Nat,i=k:=⟨i.toNat,by omega⟩
  have hk:k<L.length:=by omega
  rw[UL (List.getElem?_eq_getElem hk)]
  have:=h _ (List.getElem_mem hk)
  omega
 ·by_cases h0:L=[]
  ·subst h0;rw[Qx];omega
  ·have hp:0<L.length:=List.length_pos_iff.2 h0
   rw[Qw hi (List.getElem?_eq_getElem (show L.length-1<L.length by omega))]
   have:=h _ (List.getElem_mem (show L.length-1<L.length by omega))
   omega
theorem V6 {l:List UInt8} (h:l.length≤4000):Gk (AS l 0).toks:=by
 intro t ht
 have:=(J0 l).2 t ht
 omega
theorem QEk {L:List Tok} {n:Nat} (hn:n≤4000) (h:∀t∈L,t.pl+t.text.length≤n∧0≤t.n∧t.n≤4294967296) {a:Nod} (ha:US L a):CN a=true:=by
 obtain⟨t,ht,hpl,hc⟩:=ha
 have:=h t ht
 unfold CN
 rw[hpl]
 rcases hc with⟨_,h1,h2,h3⟩|⟨_,hnm,h1,h2,h3⟩|⟨h1,h2,h3,h4⟩
 ·rw[if_pos h1,h2,h3];simp;omega
 ·rw[if_neg (by omega),if_pos h1,h2,h3,hnm];simp;omega
 ·rw[if_neg (by omega),if_neg (by omega),h3,h4];simp;omega
theorem Gq {L:List Nod} (h:BZ L=true):∃x:Ex,L=x.flat∧JV x∧x.deep≤12∧x.size≤40∧Bi L=AZ false x∧QAZ L=x.deep:=by
 obtain⟨x,hw,ho,rfl,h40,hall,hd⟩:=Jt h
 refine⟨x,rfl,⟨ho,hall⟩,hd,by rw[←B7];exact h40,?_,?_⟩
 ·unfold Bi;rw[hw];simp[h]
 ·unfold QAZ;rw[hw];simp[h]
theorem RN {x:Ex} (h:JV x) (hs:x.size≤40):(AZ false x).length≤840:=by
 have:=KU x false (Ne h.2)
 omega
inductive RS (α:Type) where
 |ok (a:α) (tq:Nat)
 |bad (e pl:Int)
def RS.bind {α β:Type}:RS α→(α→Nat→RS β)→RS β
 |.ok a tq,k=>k a tq
 |.bad e p,_=>.bad e p
@[simp] theorem RS.bind_ok {α β:Type} (a:α) (tq:Nat) (k:α→Nat→RS β):(RS.ok a tq).bind k=k a tq:=rfl
@[simp] theorem RS.bind_bad {α β:Type} (e p:Int) (k:α→Nat→RS β):(RS.bad e p:RS α).bind k=.bad e p:=rfl
def badR {α:Type} (L:List Tok) (i:Nat) (e:Int):RS α:=.bad (if i<L.length then e else 6) (AT L i)
def Bg (L:List Tok) (i:Nat) (s:List UInt8):RS Unit:=if isB L i s=true then .ok () (i+1)else badR L i 5
def nameAt (L:List Tok) (i:Nat):Option (List UInt8):=match L[i]? with
 |some t=>if t.kind=1∧nameB t.text=true then some t.text else none
 |none=>none
def BW (L:List Tok) (i:Nat):RS (List UInt8):=match nameAt L i with
 |some s=>.ok s (i+1)
 |none=>badR L i 5
def exprP (L:List Tok) (i:Nat):RS (List Nod):=if(EH L i).err=0 then .ok (EH L i).nodes (EH L i).tq.toNat else .bad (EH L i).err (EH L i).pl
def Dc (L:List Tok) (i:Nat):RS Int:=match L[i]? with
 |some t=>if t.kind=2 then(if 1≤t.n∧t.n≤8 then .ok t.n (i+1)else badR L i 11)else badR L i 5
 |none=>badR L i 5
def Ao (L:List Tok) (i:Nat):Nat:=((List.range 15).find? (fun k=>decide (2≤k)&&isB L i (CO.getD k []))).getD 1
def GU (k:Int) (pl:Int):Stm:=⟨k,[],[],[],[],0,0,0,pl⟩
def DC (L:List Tok) (k:Nat) (pl:Int) (i:Nat):RS Stm:=
 if k=1 then(BW L i).bind fun r j=>(Bg L j [61]).bind fun _ j=>(exprP L j).bind fun e j=>.ok {GU k pl with reg:=r,e:=e} j
 else if k=2 then(BW L i).bind fun r j=>(Bg L j [61]).bind fun _ j=>(BW L j).bind fun n j=>.ok {GU k pl with reg:=r,name:=n} j
 else if k=3 then(BW L i).bind fun n j=>(Bg L j [61]).bind fun _ j=>(exprP L j).bind fun e j=>.ok {GU k pl with name:=n,e:=e} j
 else if k=4 then(BW L i).bind fun r j=>(Bg L j [61]).bind fun _ j=>(BW L j).bind fun n j=>(Bg L j [44]).bind fun _ j=>(exprP L j).bind fun e j=>(Bg L j [44]).bind fun _ j=>(exprP L j).bind fun f j=>.ok {GU k pl with reg:=r,name:=n,e:=e,f:=f} j
 else if k=5∨k=6∨k=9∨k=10 then(BW L i).bind fun n j=>.ok {GU k pl with name:=n} j
 else if k=11∨k=14 then(exprP L i).bind fun e j=>.ok {GU k pl with e:=e} j
 else if k=12 then(Dc L i).bind fun n j=>.ok {GU k pl with n:=n} j
 else .ok (GU k pl) i
def RS.obind {α β:Type}:Option (RS α)→(α→Nat→Option (RS β))→Option (RS β)
 |some (.ok a tq),k=>k a tq
 |some (.bad e p),_=>some (.bad e p)
 |none,_=>none
@[simp] theorem RS.obind_ok {α β:Type} (a:α) (tq:Nat) (k:α→Nat→Option (RS β)):RS.obind (some (RS.ok a tq)) k=k a tq:=rfl
@[simp] theorem RS.obind_bad {α β:Type} (e p:Int) (k:α→Nat→Option (RS β)):RS.obind (some (RS.bad e p:RS α)) k=some (.bad e p):=rfl
@[simp] theorem RS.obind_none {α β:Type} (k:α→Nat→Option (RS β)):RS.obind (none:Option (RS α)) k=none:=rfl
theorem RS.obind_some {α β:Type} {o:Option (RS α)} {k:α→Nat→Option (RS β)} {r:RS β} (h:RS.obind o k=some r):(∃a tq,o=some (.ok a tq)∧k a tq=some r)∨(∃e p,o=some (.bad e p)∧r=.bad e p):=by
 rcases o with _|⟨a,tq⟩|⟨e,p⟩
 ·cases h
 ·exact .inl ⟨a,tq,rfl,h⟩
 ·exact .inr ⟨e,p,rfl,by simpa using h.symm⟩
abbrev CU:=Nat→Nat→Nat→Option (RS Bk)
def Bz (row:CU) (L:List Tok) (i d l:Nat):Option (RS Bk):=
 if 12<d∧isB L i [123]=true then some (badR L i 7)
 else RS.obind (some (Bg L i [123])) fun _ j=>RS.obind (row j d l) fun b j=>RS.obind (some (Bg L j [125])) fun _ j=>some (.ok b j)
structure V7 where
 s:Stm
 b:Bk
 e:Bk
def Df (row:CU) (L:List Tok) (k:Nat) (i d l:Nat):Option (RS Bk):=
 if k=11∧isB L i FU=true then Bz row L (i+1) d l else some (.ok .nil i)
def Yo (k l:Nat):Nat:=if k=12 then l+1 else l
def GO (row:CU) (L:List Tok) (i d l:Nat):Option (RS V7):=
 if Ao L i=13∧l=0 then some (badR L i 5)
 else RS.obind (some (DC L (Ao L i) (AT L i) (if Ao L i=1 then i else i+1))) fun s j=>
  if¬GR (Ao L i:Nat)then RS.obind (some (Bg L j [59])) fun _ j=>some (.ok ⟨s,.nil,.nil⟩ j)
  else RS.obind (Bz row L j (d+1) (Yo (Ao L i) l)) fun b j=>RS.obind (Df row L (Ao L i) j (d+1) (Yo (Ao L i) l)) fun e j=>some (.ok ⟨{s with body:=b.count,els:=e.count},b,e⟩ j)
def Ci (L:List Tok):Nat→CU
 |0=>fun _ _ _=>none
 |f+1=>fun i d l=>if isB L i [125]=true then some (.ok .nil i)
  else RS.obind (GO (Ci L f) L i d l) fun o j=>RS.obind (Ci L f j d l) fun r j=>some (.ok (.cons o.s o.b o.e r) j)
def Ec {α:Type} (L:List Tok) (i:Nat) (r:RS α):Prop:=match r with
 |.ok _ tq=>i<tq∧tq≤L.length
 |.bad e _=>e≠0
def JG {α:Type} (L:List Tok) (i:Nat) (r:RS α):Prop:=match r with
 |.ok _ tq=>i≤tq∧tq≤L.length
 |.bad e _=>e≠0
theorem Ec.le {α:Type} {L:List Tok} {i:Nat} {r:RS α} (h:Ec L i r):JG L i r:=by
 cases r with
 |ok a tq=>exact⟨by have:=h.1;omega,h.2⟩
 |bad e p=>exact h
theorem GL {α:Type} {L:List Tok} {i j:Nat} {e:Int} (he:e≠0):Ec L j (badR L i e:RS α):=by
 unfold badR Ec;simp only;split<;>omega
theorem Ae (L:List Tok) (i:Nat) (s:List UInt8):Ec L i (Bg L i s):=by
 unfold Bg
 split
 ·rename_i h;have:=Bt h;exact⟨by omega,by omega⟩
 ·exact GL (by omega)
theorem IT {L:List Tok} {i:Nat} {s:List UInt8} (h:nameAt L i=some s):i<L.length∧nameB s=true:=by
 unfold nameAt at h
 split at h
 ·rename_i t ht
  split at h
  ·rename_i hc
   simp at h;subst h
   exact⟨(List.getElem?_eq_some_iff.1 ht).1,hc.2⟩
  ·cases h
 ·cases h
theorem Aq (L:List Tok) (i:Nat):Ec L i (BW L i):=by
 unfold BW
 split
 ·rename_i h;have:=(IT h).1;exact⟨by omega,by omega⟩
 ·exact GL (by omega)
theorem I2 (L:List Tok) (i:Nat):Ec L i (Dc L i):=by
 unfold Dc
 split
 ·rename_i t ht
  have hi:=(List.getElem?_eq_some_iff.1 ht).1
  split
  ·split
   ·exact⟨by omega,by omega⟩
   ·exact GL (by omega)
  ·exact GL (by omega)
 ·exact GL (by omega)
theorem J1 (L:List Tok) (i:Nat):((EH L i).err≠0∧(EH L i).nodes=[]∧(EH L i).tq=0)∨
  (∃x:Ex,x.ok∧x.deep≤12∧x.size≤40∧(∀a∈x.flat,US L a)∧∃tq:Nat,EH L i=⟨x.flat,tq,0,0⟩∧i<tq∧tq≤L.length):=by
 have hf:=KP L i
 rw[IQ]
 cases hp:F9 L i with
 |bad e j=>
  rw[hp]at hf
  obtain⟨h3,_⟩:=hf
  exact .inl ⟨by show e≠0;omega,rfl,rfl⟩
 |ok x tq=>
  rw[hp]at hf
  obtain⟨g1,g2,g3,g4,g5⟩:=hf
  by_cases hd:12<x.deep
  ·rw[Lu hd];exact .inl ⟨by show(7:Int)≠0;decide,rfl,rfl⟩
  ·by_cases hs:40<x.size
   ·rw[Np hd hs];exact .inl ⟨by show(2:Int)≠0;decide,rfl,rfl⟩
   ·rw[Mc hd hs];exact .inr ⟨x,g3,by omega,by omega,g5,tq,rfl,by omega,g2⟩
theorem BQ (L:List Tok) (i:Nat):Ec L i (exprP L i):=by
 unfold exprP
 rcases J1 L i with⟨h,_⟩|⟨x,_,_,_,_,tq,h,h1,h2⟩
 ·rw[if_neg h];exact h
 ·rw[h];exact⟨by simpa using h1,by simpa using h2⟩
theorem Az {α β:Type} {L:List Tok} {i:Nat} {r:RS α} {k:α→Nat→RS β} (h:Ec L i r) (hk:∀a j,r=.ok a j→JG L j (k a j)):Ec L i (r.bind k):=by
 cases r with
 |bad e p=>exact h
 |ok a j=>
  have:=hk a j rfl
  have h1:=h.1
  simp only[RS.bind_ok]
  cases hr:k a j with
  |ok b tq=>rw[hr]at this;exact⟨by have:=this.1;omega,this.2⟩
  |bad e p=>rw[hr]at this;exact this
theorem E4 {α:Type} {L:List Tok} {j:Nat} (a:α) (h:j≤L.length):JG L j (RS.ok a j):=⟨Nat.le_refl _,h⟩
theorem Ec.tq {α:Type} {L:List Tok} {i j:Nat} {a:α} {r:RS α} (h:Ec L i r) (e:r=.ok a j):j≤L.length:=by subst e;exact h.2
theorem Ui (L:List Tok) (k:Nat) (pl:Int) (i:Nat) (hi:i≤L.length):JG L i (DC L k pl i):=by
 unfold DC
 repeat' split
 ·exact(Az (Aq L i) fun r j _=>(Az (Ae L j _) fun _ j _=>(Az (BQ L j) fun e j he=>E4 _ ((BQ L _).tq he)).le).le).le
 ·exact(Az (Aq L i) fun r j _=>(Az (Ae L j _) fun _ j _=>(Az (Aq L j) fun e j he=>E4 _ ((Aq L _).tq he)).le).le).le
 ·exact(Az (Aq L i) fun r j _=>(Az (Ae L j _) fun _ j _=>(Az (BQ L j) fun e j he=>E4 _ ((BQ L _).tq he)).le).le).le
 ·exact(Az (Aq L i) fun r j _=>(Az (Ae L j _) fun _ j _=>(Az (Aq L j) fun e j _=>(Az (Ae L j _) fun _ j _=>(Az (BQ L j) fun e j _=>(Az (Ae L j _) fun _ j _=>(Az (BQ L j) fun e j he=>E4 _ ((BQ L _).tq he)).le).le).le).le).le).le).le
 ·exact(Az (Aq L i) fun r j he=>E4 _ ((Aq L _).tq he)).le
 ·exact(Az (BQ L i) fun r j he=>E4 _ ((BQ L _).tq he)).le
 ·exact(Az (I2 L i) fun r j he=>E4 _ ((I2 L _).tq he)).le
 ·exact E4 _ hi
theorem FO (L:List Tok) (i:Nat):Ao L i=1∨(2≤Ao L i∧Ao L i≤14∧isB L i (CO.getD (Ao L i) [])=true):=by
 unfold Ao
 cases h:(List.range 15).find? (fun k=>decide (2≤k)&&isB L i (CO.getD k []))with
 |none=>exact .inl rfl
 |some k=>
  have h1:=List.find?_some h
  have h2:=List.mem_of_find?_eq_some h
  simp only[Bool.and_eq_true,decide_eq_true_eq]at h1
  rw[List.mem_range]at h2
  exact .inr ⟨h1.1,by show k≤14;omega,h1.2⟩
theorem PY (L:List Tok) (i:Nat):1≤Ao L i∧Ao L i≤14:=by
 rcases FO L i with h|⟨h1,h2,_⟩<;>omega
theorem Su (L:List Tok) (pl:Int) (i:Nat):Ec L i (DC L 1 pl i):=by
 unfold DC
 rw[if_pos rfl]
 exact Az (Aq L i) fun r j _=>(Az (Ae L j _) fun _ j _=>(Az (BQ L j) fun e j he=>E4 _ ((BQ L _).tq he)).le).le
def Dz (L:List Tok) (i:Nat):RS Stm:=DC L (Ao L i) (AT L i) (if Ao L i=1 then i else i+1)
theorem G7 (L:List Tok) (i:Nat):Ec L i (Dz L i):=by
 unfold Dz
 rcases FO L i with h|⟨h1,h2,h3⟩
 ·rw[h,if_pos rfl];exact Su L _ i
 ·rw[if_neg (by omega)]
  have:=Ui L (Ao L i) (AT L i) (i+1) (Bt h3)
  cases hp:DC L (Ao L i) (AT L i) (i+1)with
  |ok a tq=>rw[hp]at this;exact⟨by have:=this.1;omega,this.2⟩
  |bad e p=>rw[hp]at this;exact this
def Kp (L:List Tok) (row:CU):Prop:=∀i d l r,i≤L.length→row i d l=some r→JG L i r
theorem Hi {L:List Tok} {row:CU} (hr:Kp L row) {i d l:Nat} {r:RS Bk} (h:Bz row L i d l=some r):Ec L i r:=by
 unfold Bz at h
 split at h
 ·simp at h;subst h;exact GL (by omega)
 ·rcases RS.obind_some h with⟨_,j,h1,h2⟩|⟨e,p,h1,rfl⟩
  ·have a1:=Ae L i [123]
   simp at h1;rw[h1]at a1
   rcases RS.obind_some h2 with⟨b,j2,h3,h4⟩|⟨e,p,h3,rfl⟩
   ·have a2:=hr _ _ _ _ a1.2 h3
    rcases RS.obind_some h4 with⟨_,j3,h5,h6⟩|⟨e,p,h5,rfl⟩
    ·have a3:=Ae L j2 [125]
     simp at h5;rw[h5]at a3
     simp at h6;subst h6
     have b1:=a1.1;have b2:=a2.1;have b3:=a3.1
     exact⟨by omega,a3.2⟩
    ·have a3:=Ae L j2 [125]
     simp at h5;rw[h5]at a3;exact a3
   ·exact hr _ _ _ _ a1.2 h3
  ·have a1:=Ae L i [123]
   simp at h1;rw[h1]at a1;exact a1
theorem PZ {L:List Tok} {row:CU} (hr:Kp L row) {k i d l:Nat} {r:RS Bk} (hi:i≤L.length) (h:Df row L k i d l=some r):JG L i r:=by
 unfold Df at h
 split at h
 ·have:=Hi hr h
  cases r with
  |ok b tq=>exact⟨by have:=this.1;omega,this.2⟩
  |bad e p=>exact this
 ·simp at h;subst h;exact⟨Nat.le_refl _,hi⟩
theorem JX {L:List Tok} {row:CU} (hr:Kp L row) {i d l:Nat} {r:RS V7} (h:GO row L i d l=some r):Ec L i r:=by
 unfold GO at h
 split at h
 ·simp at h;subst h;exact GL (by omega)
 ·have a1:=G7 L i
  unfold Dz at a1
  rcases RS.obind_some h with⟨s,j,h1,h2⟩|⟨e,p,h1,rfl⟩
  ·simp at h1;rw[h1]at a1
   have b1:=a1.1
   split at h2
   ·rcases RS.obind_some h2 with⟨_,j2,h3,h4⟩|⟨e,p,h3,rfl⟩
    ·have a2:=Ae L j [59]
     simp at h3;rw[h3]at a2
     simp at h4;subst h4
     exact⟨by have:=a2.1;omega,a2.2⟩
    ·have a2:=Ae L j [59]
     simp at h3;rw[h3]at a2;exact a2
   ·rcases RS.obind_some h2 with⟨b,j2,h3,h4⟩|⟨e,p,h3,rfl⟩
    ·have a2:=Hi hr h3
     rcases RS.obind_some h4 with⟨e,j3,h5,h6⟩|⟨e,p,h5,rfl⟩
     ·have a3:=PZ hr a2.2 h5
      simp at h6;subst h6
      have b2:=a2.1;have b3:=a3.1
      exact⟨by omega,a3.2⟩
     ·exact PZ hr a2.2 h5
    ·exact Hi hr h3
  ·simp at h1;rw[h1]at a1;exact a1
theorem DI (L:List Tok) (f i d l:Nat):Ci L (f+1) i d l=if isB L i [125]=true then some (.ok .nil i)
  else RS.obind (GO (Ci L f) L i d l) fun o j=>RS.obind (Ci L f j d l) fun r j=>some (.ok (.cons o.s o.b o.e r) j):=rfl
theorem FP (L:List Tok):∀f,Kp L (Ci L f):=by
 intro f
 induction f with
 |zero=>intro i d l r _ h;simp[Ci]at h
 |succ f ih=>
  intro i d l r hi h
  rw[DI]at h
  split at h
  ·simp at h;subst h;exact⟨Nat.le_refl _,hi⟩
  ·rcases RS.obind_some h with⟨o,j,h1,h2⟩|⟨e,p,h1,rfl⟩
   ·have a1:=JX ih h1
    rcases RS.obind_some h2 with⟨t,j2,h3,h4⟩|⟨e,p,h3,rfl⟩
    ·have a2:=ih _ _ _ _ a1.2 h3
     simp at h4;subst h4
     have b1:=a1.1;have b2:=a2.1
     exact⟨by omega,a2.2⟩
    ·have a2:JG L j (.bad e p:RS Bk):=ih _ _ _ _ a1.2 h3
     exact(show e≠0 from a2)
   ·have a1:Ec L i (.bad e p:RS V7):=JX ih h1
    exact(show e≠0 from a1)
def Me (row row':CU):Prop:=∀i d l r,row i d l=some r→row' i d l=some r
theorem GA {α β:Type} {o o':Option (RS α)} {k k':α→Nat→Option (RS β)} {r:RS β} (ho:∀r,o=some r→o'=some r) (hk:∀a j,o=some (.ok a j)→∀r,k a j=some r→k' a j=some r) (h:RS.obind o k=some r):RS.obind o' k'=some r:=by
 rcases RS.obind_some h with⟨a,tq,h1,h2⟩|⟨e,p,h1,rfl⟩
 ·rw[ho _ h1];exact hk a tq h1 _ h2
 ·rw[ho _ h1];rfl
theorem Ii {L:List Tok} {row row':CU} (hm:Me row row') {i d l:Nat} {r:RS Bk} (h:Bz row L i d l=some r):Bz row' L i d l=some r:=by
 unfold Bz at h⊢
 split at h
 ·rename_i hc;rw[if_pos hc];exact h
 ·rename_i hc;rw[if_neg hc]
  exact GA (fun _ h=>h) (fun _ j _ _ h=>GA (fun _ h=>hm _ _ _ _ h) (fun _ _ _ _ h=>h) h) h
theorem RO {L:List Tok} {row row':CU} (hm:Me row row') {k i d l:Nat} {r:RS Bk} (h:Df row L k i d l=some r):Df row' L k i d l=some r:=by
 unfold Df at h⊢
 split at h
 ·rename_i hc;rw[if_pos hc];exact Ii hm h
 ·rename_i hc;rw[if_neg hc];exact h
theorem QAv {L:List Tok} {row row':CU} (hm:Me row row') {i d l:Nat} {r:RS V7} (h:GO row L i d l=some r):GO row' L i d l=some r:=by
 unfold GO at h⊢
 split at h
 ·rename_i hc;rw[if_pos hc];exact h
 ·rename_i hc;rw[if_neg hc]
  refine GA (fun _ h=>h) (fun s j _ r h=>?_) h
  split at h
  ·rename_i hb;rw[if_pos hb];exact h
  ·rename_i hb;rw[if_neg hb]
   exact GA (fun _ h=>Ii hm h) (fun _ j _ _ h=>GA (fun _ h=>RO hm h) (fun _ _ _ _ h=>h) h) h
theorem Sz (L:List Tok):∀f,Me (Ci L f) (Ci L (f+1)):=by
 intro f
 induction f with
 |zero=>intro i d l r h;simp[Ci]at h
 |succ f ih=>
  intro i d l r h
  rw[DI]at h⊢
  split at h
  ·rename_i hc;rw[if_pos hc];exact h
  ·rename_i hc;rw[if_neg hc]
   exact GA (fun _ h=>QAv ih h) (fun _ j _ _ h=>GA (fun _ h=>ih _ _ _ _ h) (fun _ _ _ _ h=>h) h) h
theorem Ij (L:List Tok) {f g:Nat} (hfg:f≤g):Me (Ci L f) (Ci L g):=by
 induction g with
 |zero=>
  obtain rfl:f=0:=(by omega)
  exact fun _ _ _ _ h=>h
 |succ g ih=>
  by_cases e:f=g+1
  ·subst e;exact fun _ _ _ _ h=>h
  ·exact fun i d l r h=>Sz L g _ _ _ _ (ih (by omega) _ _ _ _ h)
theorem Ac {α β:Type} {o:Option (RS α)} {k:α→Nat→Option (RS β)} (ho:∃r,o=some r) (hk:∀a j,o=some (.ok a j)→∃r,k a j=some r):∃r,RS.obind o k=some r:=by
 obtain⟨r,rfl⟩:=ho
 cases r with
 |ok a tq=>exact hk a tq rfl
 |bad e p=>exact⟨_,rfl⟩
def Pe (L:List Tok) (row:CU) (i:Nat):Prop:=∀j d l,i<j→j≤L.length→∃r,row j d l=some r
theorem OQ {L:List Tok} {row:CU} {i:Nat} (ht:Pe L row i) {j d l:Nat} (hij:i≤j):∃r,Bz row L j d l=some r:=by
 unfold Bz
 split
 ·exact⟨_,rfl⟩
 ·refine Ac ⟨_,rfl⟩ fun _ j2 h=>?_
  have a:=Ae L j [123]
  simp at h;rw[h]at a
  refine Ac (ht _ _ _ (by have:=a.1;omega) a.2) fun b j3 _=>Ac ⟨_,rfl⟩ fun _ j4 _=>⟨_,rfl⟩
theorem Yp {L:List Tok} {row:CU} (hr:Kp L row) {i:Nat} (ht:Pe L row i) {d l:Nat}:∃r,GO row L i d l=some r:=by
 unfold GO
 split
 ·exact⟨_,rfl⟩
 ·refine Ac ⟨_,rfl⟩ fun s j h=>?_
  have a:=G7 L i
  unfold Dz at a
  simp at h;rw[h]at a
  have b:=a.1
  split
  ·exact Ac ⟨_,rfl⟩ fun _ j2 _=>⟨_,rfl⟩
  ·refine Ac (OQ ht (by omega)) fun b j2 h2=>Ac ?_ fun e j3 _=>⟨_,rfl⟩
   have a2:=Hi hr h2
   unfold Df
   split
   ·exact OQ ht (by have:=a2.1;omega)
   ·exact⟨_,rfl⟩
theorem Nr (L:List Tok):∀f i d l,i≤L.length→L.length-i+1≤f→∃r,Ci L f i d l=some r:=by
 intro f
 induction f with
 |zero=>intro i d l _ h;omega
 |succ f ih=>
  intro i d l hi h
  rw[DI]
  split
  ·exact⟨_,rfl⟩
  ·have ht:Pe L (Ci L f) i:=fun j d l h1 h2=>ih j d l h2 (by omega)
   refine Ac (Yp (FP L f) ht) fun o j h1=>?_
   have a:=JX (FP L f) h1
   exact Ac (ht _ _ _ a.1 a.2) fun t j2 _=>⟨_,rfl⟩
def Fe (L:List Tok) (i d l:Nat):RS Bk:=(Bz (Ci L (L.length+1)) L i d l).getD (.bad 0 0)
theorem OR (L:List Tok) (i d l:Nat):Bz (Ci L (L.length+1)) L i d l=some (Fe L i d l):=by
 have:∃r,Bz (Ci L (L.length+1)) L i d l=some r:=by
  unfold Bz
  split
  ·exact⟨_,rfl⟩
  ·refine Ac ⟨_,rfl⟩ fun _ j2 h=>?_
   have a:=Ae L i [123]
   simp at h;rw[h]at a
   exact Ac (Nr L _ _ _ _ a.2 (by omega)) fun b j3 _=>Ac ⟨_,rfl⟩ fun _ j4 _=>⟨_,rfl⟩
 obtain⟨r,hr⟩:=this
 unfold Fe;rw[hr];rfl
theorem Ns {L:List Tok} {f i d l:Nat} {r:RS Bk} (h:Bz (Ci L f) L i d l=some r):Fe L i d l=r:=by
 have h1:=Ii (Ij L (Nat.le_max_left f (L.length+1))) h
 have h2:=Ii (Ij L (Nat.le_max_right f (L.length+1))) (OR L i d l)
 rw[h1]at h2;exact(Option.some.inj h2).symm
structure ParsedS where
 stmts:List Stm
 tq:Int
 err:Int
 pl:Int
def QAw (L:List Tok) (i:Int):RS Bk→ParsedS
 |.bad e p=>⟨[],0,e,p⟩
 |.ok b tq=>if 40<b.count then⟨[],0,2,AT L i⟩else⟨b.flat,tq,0,0⟩
def E5 (L:List Tok) (i:Int):ParsedS:=if i<0 then⟨[],0,1,0⟩else QAw L i (Fe L i.toNat 0 0)
def TF (n:Nat) (L:List Tok):Prop:=∀t∈L,t.pl+t.text.length≤n∧0≤t.n∧t.n≤4294967296
theorem Ar {α β:Type} {r:RS α} {k:α→Nat→RS β} {b:β} {j:Nat} (h:r.bind k=.ok b j):∃a i,r=.ok a i∧k a i=.ok b j:=by
 cases r with
 |ok a i=>exact⟨a,i,rfl,h⟩
 |bad e p=>cases h
theorem IG {L:List Tok} {i j:Nat} {s:List UInt8} (h:BW L i=.ok s j):nameB s=true:=by
 unfold BW at h
 split at h
 ·rename_i hn
  simp at h;rw[←h.1];exact(IT hn).2
 ·unfold badR at h;cases h
theorem LG {n:Nat} {L:List Tok} {i j:Nat} {l:List Nod} (hn:n≤4000) (hL:TF n L) (h:exprP L i=.ok l j):BZ l=true:=by
 unfold exprP at h
 rcases J1 L i with⟨h1,_⟩|⟨x,h1,h2,h3,h4,tq,h5,_⟩
 ·rw[if_neg h1]at h;cases h
 ·rw[h5]at h
  simp at h
  rw[←h.1,PD h1]
  have hall:x.flat.all CN=true:=List.all_eq_true.2 fun a ha=>QEk hn hL (h4 a ha)
  rw[hall];simp;omega
theorem QAx {L:List Tok} {i j:Nat} {n:Int} (h:Dc L i=.ok n j):1≤n∧n≤8:=by
 unfold Dc at h
 split at h
 ·split at h
  ·split at h
   ·rename_i hc;simp at h;rw[←h.1];exact hc
   ·unfold badR at h;cases h
  ·unfold badR at h;cases h
 ·unfold badR at h;cases h
theorem RP:∀k:Fin 15,1≤k.1→(If (k.1:Nat) 114=decide (k.1=1∨k.1=2∨k.1=4))∧(If (k.1:Nat) 110=decide (k.1=2∨k.1=3∨k.1=4∨k.1=5∨k.1=6∨k.1=9∨k.1=10))∧(If (k.1:Nat) 101=decide (k.1=1∨k.1=3∨k.1=4∨k.1=11∨k.1=14))∧(If (k.1:Nat) 102=decide (k.1=4))∧(If (k.1:Nat) 107=decide (k.1=12)):=by decide
theorem Hy {x:Stm} {k:Nat} (hk:x.kind=k) (h1:1≤k) (h2:k≤14) (hp:0≤x.pl∧x.pl≤4000)
  (hr:(if k=1∨k=2∨k=4 then nameB x.reg else x.reg.isEmpty)=true)
  (hn:(if k=2∨k=3∨k=4∨k=5∨k=6∨k=9∨k=10 then nameB x.name else x.name.isEmpty)=true)
  (he:(if k=1∨k=3∨k=4∨k=11∨k=14 then BZ x.e else x.e.isEmpty)=true)
  (hf:(if k=4 then BZ x.f else x.f.isEmpty)=true)
  (ht:(if k=12 then decide (1≤x.n)&&decide (x.n≤8)else decide (x.n=0))=true):Dy x=true:=by
 obtain⟨t1,t2,t3,t4,t5⟩:=RP ⟨k,by omega⟩ h1
 simp only at t1 t2 t3 t4 t5
 unfold Dy
 rw[hk,t1,t2,t3,t4,t5]
 simp only[decide_eq_true_eq]
 rw[hr,hn,he,hf,ht]
 simp;omega
theorem J2 {x:Stm} {k:Nat} (hk:x.kind=k) (h:Dy x=true):1≤k∧k≤14∧(0≤x.pl∧x.pl≤4000)∧
  (if k=1∨k=2∨k=4 then nameB x.reg else x.reg.isEmpty)=true∧
  (if k=2∨k=3∨k=4∨k=5∨k=6∨k=9∨k=10 then nameB x.name else x.name.isEmpty)=true∧
  (if k=1∨k=3∨k=4∨k=11∨k=14 then BZ x.e else x.e.isEmpty)=true∧
  (if k=4 then BZ x.f else x.f.isEmpty)=true∧
  (if k=12 then decide (1≤x.n)&&decide (x.n≤8)else decide (x.n=0))=true:=by
 unfold Dy at h
 rw[hk]at h
 simp only[Bool.and_eq_true,decide_eq_true_eq]at h
 obtain⟨⟨⟨⟨⟨⟨⟨⟨h1,h2⟩,h3⟩,h4⟩,h5⟩,h6⟩,h7⟩,h8⟩,h9⟩:=h
 obtain⟨t1,t2,t3,t4,t5⟩:=RP ⟨k,by omega⟩ (by show 1≤k;omega)
 simp only at t1 t2 t3 t4 t5
 rw[t1]at h5;rw[t2]at h6;rw[t3]at h7;rw[t4]at h8;rw[t5]at h9
 simp only[decide_eq_true_eq]at h5 h6 h7 h8 h9
 refine⟨by omega,by omega,⟨h3,h4⟩,h5,h6,h7,h8,?_⟩
 split at h9
 ·rename_i hc;rw[if_pos hc];simpa using h9
 ·rename_i hc;rw[if_neg hc];simpa using h9
theorem Hj {x:Stm} (h:Dy x=true):∃k:Nat,x.kind=k∧1≤k∧k≤14:=by
 unfold Dy at h
 simp only[Bool.and_eq_true,decide_eq_true_eq]at h
 exact⟨x.kind.toNat,by omega,by omega,by omega⟩
theorem Yq {n:Nat} {L:List Tok} {k i j:Nat} {pl:Int} {s:Stm} (hn:n≤4000) (hL:TF n L) (h1:1≤k) (h2:k≤14) (hp:0≤pl∧pl≤4000) (h:DC L k pl i=.ok s j):Dy s=true∧s.kind=k∧s.body=0∧s.els=0:=by
 unfold DC at h
 split at h
 ·obtain⟨r,j1,e1,h⟩:=Ar h
  obtain⟨_,j2,e2,h⟩:=Ar h
  obtain⟨e,j3,e3,h⟩:=Ar h
  simp at h;obtain⟨rfl,_⟩:=h
  subst k
  exact⟨Hy (k:=1) rfl h1 h2 hp (IG e1) rfl (LG hn hL e3) rfl rfl,rfl,rfl,rfl⟩
 split at h
 ·obtain⟨r,j1,e1,h⟩:=Ar h
  obtain⟨_,j2,e2,h⟩:=Ar h
  obtain⟨e,j3,e3,h⟩:=Ar h
  simp at h;obtain⟨rfl,_⟩:=h
  subst k
  exact⟨Hy (k:=2) rfl h1 h2 hp (IG e1) (IG e3) rfl rfl rfl,rfl,rfl,rfl⟩
 split at h
 ·obtain⟨r,j1,e1,h⟩:=Ar h
  obtain⟨_,j2,e2,h⟩:=Ar h
  obtain⟨e,j3,e3,h⟩:=Ar h
  simp at h;obtain⟨rfl,_⟩:=h
  subst k
  exact⟨Hy (k:=3) rfl h1 h2 hp rfl (IG e1) (LG hn hL e3) rfl rfl,rfl,rfl,rfl⟩
 split at h
 ·obtain⟨r,j1,e1,h⟩:=Ar h
  obtain⟨_,j2,e2,h⟩:=Ar h
  obtain⟨m,j3,e3,h⟩:=Ar h
  obtain⟨_,j4,e4,h⟩:=Ar h
  obtain⟨e,j5,e5,h⟩:=Ar h
  obtain⟨_,j6,e6,h⟩:=Ar h
  obtain⟨f,j7,e7,h⟩:=Ar h
  simp at h;obtain⟨rfl,_⟩:=h
  subst k
  exact⟨Hy (k:=4) rfl h1 h2 hp (IG e1) (IG e3) (LG hn hL e5) (LG hn hL e7) rfl,rfl,rfl,rfl⟩
 split at h
 ·rename_i hk
  obtain⟨m,j1,e1,h⟩:=Ar h
  simp at h;obtain⟨rfl,_⟩:=h
  have hm:=IG e1
  rcases hk with rfl|rfl|rfl|rfl
  ·exact⟨Hy (k:=5) rfl h1 h2 hp rfl hm rfl rfl rfl,rfl,rfl,rfl⟩
  ·exact⟨Hy (k:=6) rfl h1 h2 hp rfl hm rfl rfl rfl,rfl,rfl,rfl⟩
  ·exact⟨Hy (k:=9) rfl h1 h2 hp rfl hm rfl rfl rfl,rfl,rfl,rfl⟩
  ·exact⟨Hy (k:=10) rfl h1 h2 hp rfl hm rfl rfl rfl,rfl,rfl,rfl⟩
 split at h
 ·rename_i hk
  obtain⟨e,j1,e1,h⟩:=Ar h
  simp at h;obtain⟨rfl,_⟩:=h
  have hm:=LG hn hL e1
  rcases hk with rfl|rfl
  ·exact⟨Hy (k:=11) rfl h1 h2 hp rfl rfl hm rfl rfl,rfl,rfl,rfl⟩
  ·exact⟨Hy (k:=14) rfl h1 h2 hp rfl rfl hm rfl rfl,rfl,rfl,rfl⟩
 split at h
 ·obtain⟨m,j1,e1,h⟩:=Ar h
  simp at h;obtain⟨rfl,_⟩:=h
  have hm:=QAx e1
  subst k
  exact⟨Hy (k:=12) rfl h1 h2 hp rfl rfl rfl rfl (by simp;exact hm),rfl,rfl,rfl⟩
 ·rename_i c1 c2 c3 c4 c5 c6 c7
  simp at h;obtain⟨rfl,_⟩:=h
  refine⟨Hy (k:=k) rfl h1 h2 hp ?_ ?_ ?_ ?_ ?_,rfl,rfl,rfl⟩
  ·rw[if_neg (by omega)];rfl
  ·rw[if_neg (by omega)];rfl
  ·rw[if_neg (by omega)];rfl
  ·rw[if_neg (by omega)];rfl
  ·rw[if_neg (by omega)];rfl
theorem M3:FV .nil:=⟨trivial,rfl⟩
theorem Gs {s:Stm} {b e r:Bk}:FV (.cons s b e r)↔s.body=b.count∧s.els=e.count∧(0<b.count→GR s.kind)∧(0<e.count→s.kind=11)∧Dy s=true∧FV b∧FV e∧FV r:=by
 unfold FV
 simp only[Bk.fit,Bk.flat,List.all_cons,List.all_append,Bool.and_eq_true]
 constructor
 ·rintro⟨⟨h1,h2,h3,h4,h5,h6,h7⟩,h8,h9,h10,h11⟩
  exact⟨h1,h2,h3,h4,h8,⟨h5,h9⟩,⟨h6,h10⟩,⟨h7,h11⟩⟩
 ·rintro⟨h1,h2,h3,h4,h8,⟨h5,h9⟩,⟨h6,h10⟩,⟨h7,h11⟩⟩
  exact⟨⟨h1,h2,h3,h4,h5,h6,h7⟩,h8,h9,h10,h11⟩
def QAy (row:CU):Prop:=∀i d l b j,d≤12→row i d l=some (.ok b j)→FV b∧b.brk l=true∧d+b.deep≤12
theorem V8 {L:List Tok} {i d:Nat} (h:¬(12<d∧isB L i [123]=true)) {u:Unit} {j:Nat} (h2:Bg L i [123]=.ok u j):d≤12:=by
 unfold Bg at h2
 split at h2
 ·rename_i hc
  by_cases hd:12<d
  ·exact absurd ⟨hd,hc⟩ h
  ·omega
 ·unfold badR at h2;cases h2
theorem Uj {L:List Tok} {row:CU} (hr:QAy row) {i d l j:Nat} {b:Bk} (h:Bz row L i d l=some (.ok b j)):FV b∧b.brk l=true∧d+b.deep≤12:=by
 unfold Bz at h
 split at h
 ·unfold badR at h;simp at h
 ·rename_i hc
  rcases RS.obind_some h with⟨_,j1,h1,h2⟩|⟨e,p,h1,h2⟩
  ·rcases RS.obind_some h2 with⟨b1,j2,h3,h4⟩|⟨e,p,h3,h4⟩
   ·rcases RS.obind_some h4 with⟨_,j3,h5,h6⟩|⟨e,p,h5,h6⟩
    ·simp at h6;obtain⟨rfl,_⟩:=h6
     exact hr _ _ _ _ _ (V8 hc (Option.some.inj h1)) h3
    ·cases h6
   ·cases h4
  ·cases h2
theorem QEl {n:Nat} {L:List Tok} {row:CU} (hn:n≤4000) (hL:TF n L) (hr:QAy row) {i d l j:Nat} {o:V7} (hd:d≤12) (h:GO row L i d l=some (.ok o j)):
  o.s.body=o.b.count∧o.s.els=o.e.count∧(0<o.b.count→GR o.s.kind)∧(0<o.e.count→o.s.kind=11)∧Dy o.s=true∧FV o.b∧FV o.e∧
  (¬o.s.kind=13∨0<l)∧o.b.brk (if o.s.kind=12 then l+1 else l)=true∧o.e.brk (if o.s.kind=12 then l+1 else l)=true∧(GR o.s.kind→d+(o.b.deep+1)≤12∧d+(o.e.deep+1)≤12):=by
 unfold GO at h
 split at h
 ·unfold badR at h;simp at h
 ·rename_i hb
  have hkr:=PY L i
  have hpl:=Ko (n:=n) (fun t ht=>(hL t ht).1) (i:Int)
  rcases RS.obind_some h with⟨s,j1,h1,h2⟩|⟨e,p,h1,h2⟩
  ·obtain⟨f1,f2,f3,f4⟩:=Yq hn hL hkr.1 hkr.2 ⟨hpl.1,by omega⟩ (Option.some.inj h1)
   have hbr:¬s.kind=13∨0<l:=by rw[f2];omega
   split at h2
   ·rename_i hk
    rcases RS.obind_some h2 with⟨_,j2,h3,h4⟩|⟨e,p,h3,h4⟩
    ·simp at h4;obtain⟨rfl,_⟩:=h4
     exact⟨f3,f4,fun h=>absurd h (by simp[Bk.count]),fun h=>absurd h (by simp[Bk.count]),f1,M3,M3,hbr,rfl,rfl,fun h=>absurd h (by show¬GR s.kind;rw[f2];exact hk)⟩
    ·cases h4
   ·rename_i hk
    have hk':GR s.kind:=by rw[f2];exact Decidable.not_not.1 hk
    rcases RS.obind_some h2 with⟨b,j2,h3,h4⟩|⟨e,p,h3,h4⟩
    ·obtain⟨g1,g2,g3⟩:=Uj hr h3
     rcases RS.obind_some h4 with⟨e,j3,h5,h6⟩|⟨e,p,h5,h6⟩
     ·simp at h6;obtain⟨rfl,_⟩:=h6
      have hin:Yo (Ao L i) l=if s.kind=12 then l+1 else l:=by
       unfold Yo;rw[f2]
       by_cases hc:Ao L i=12
       ·rw[if_pos hc,if_pos (by omega)]
       ·rw[if_neg hc,if_neg (by omega)]
      rw[hin]at g2 h5
      have he:FV e∧e.brk (if s.kind=12 then l+1 else l)=true∧d+1+e.deep≤12∧(0<e.count→s.kind=11):=by
       unfold Df at h5
       split at h5
       ·rename_i hc
        obtain⟨q1,q2,q3⟩:=Uj hr h5
        exact⟨q1,q2,q3,fun _=>by rw[f2,hc.1];rfl⟩
       ·simp at h5;obtain⟨rfl,_⟩:=h5
        exact⟨M3,rfl,by simp only[Bk.deep];omega,fun h=>absurd h (by simp[Bk.count])⟩
      obtain⟨q1,q2,q3,q4⟩:=he
      exact⟨rfl,rfl,fun _=>hk',q4,f1,g1,q1,hbr,g2,q2,fun _=>⟨by show d+(b.deep+1)≤12;omega,by show d+(e.deep+1)≤12;omega⟩⟩
     ·cases h6
    ·cases h4
  ·cases h2
theorem QEm {n:Nat} {L:List Tok} (hn:n≤4000) (hL:TF n L):∀f,QAy (Ci L f):=by
 intro f
 induction f with
 |zero=>intro i d l b j _ h;simp[Ci]at h
 |succ f ih=>
  intro i d l b j hd h
  rw[DI]at h
  split at h
  ·simp at h;obtain⟨rfl,_⟩:=h
   exact⟨M3,rfl,by simp only[Bk.deep];omega⟩
  ·rcases RS.obind_some h with⟨o,j1,h1,h2⟩|⟨e,p,h1,h2⟩
   ·rcases RS.obind_some h2 with⟨r,j2,h3,h4⟩|⟨e,p,h3,h4⟩
    ·simp at h4;obtain⟨rfl,_⟩:=h4
     obtain⟨g1,g2,g3⟩:=ih _ _ _ _ _ hd h3
     obtain⟨q1,q2,q3,q4,q5,q6,q7,q8,q9,q10,q11⟩:=QEl hn hL ih hd h1
     refine⟨Gs.2 ⟨q1,q2,q3,q4,q5,q6,q7,g1⟩,?_,?_⟩
     ·simp only[Bk.brk,q9,q10,g2,Bool.and_true]
      simpa using q8
     ·simp only[Bk.deep]
      split
      ·rename_i hb;have:=q11 hb;omega
      ·omega
    ·cases h4
   ·cases h2
end Go.Proofs.YthfkpalfopdmhaaGreatDoor
namespace Go.Proofs.YthfkpalfopdmhaaGreatDoor
open Go.RowKit
def Qp (x:Stm) (vE vF:Value):Value:=.agg #[.int .i64 x.kind,.string ⟨x.reg.toArray⟩,.string ⟨x.name.toArray⟩,vE,vF,.int .i64 x.n,.int .i64 x.body,.int .i64 x.els,.int .i64 x.pl]
def GV (x:Stm):Prop:=x.reg.length≤100000∧x.name.length≤100000∧x.e.length≤10000∧x.f.length≤10000∧Fa x.e∧Fa x.f
structure Yr (W:World) (g:Nat) (a b c d e f h i j:Value):Prop where
 lt:g<W.heap.size
 c0:W.cell? ⟨g,0,none⟩=some a
 c1:W.cell? ⟨g,1,none⟩=some b
 c2:W.cell? ⟨g,2,none⟩=some c
 c3:W.cell? ⟨g,3,none⟩=some d
 c4:W.cell? ⟨g,4,none⟩=some e
 c5:W.cell? ⟨g,5,none⟩=some f
 c6:W.cell? ⟨g,6,none⟩=some h
 c7:W.cell? ⟨g,7,none⟩=some i
 c8:W.cell? ⟨g,8,none⟩=some j
theorem Ed (w:World) (a b c d e f h i j:Value) (t:TypeId):Yr (w.alloc (.cells #[a,b,c,d,e,f,h,i,j] t)) w.heap.size a b c d e f h i j:=⟨by simp,by simp,by simp,by simp,by simp,by simp,by simp,by simp,by simp,by simp⟩
theorem Yr.on {W W':World} {g:Nat} {a b c d e f h i j:Value} (k:Yr W g a b c d e f h i j) (hb:Below W.heap.size W W'):Yr W' g a b c d e f h i j:=by
 obtain⟨lt,c0,c1,c2,c3,c4,c5,c6,c7,c8⟩:=k
 have e:∀q,W'.cell? ⟨g,q,none⟩=W.cell? ⟨g,q,none⟩:=fun q=>hb.cell (p:=⟨g,q,none⟩) lt
 exact⟨Nat.lt_of_lt_of_le lt hb.size,by rw[e,c0],by rw[e,c1],by rw[e,c2],by rw[e,c3],by rw[e,c4],by rw[e,c5],by rw[e,c6],by rw[e,c7],by rw[e,c8]⟩
structure At9 (w:World) (g o:Nat) (t:Stm) (AE:Option Addr) (nE cE:Nat) (AF:Option Addr) (nF cF:Nat):Prop where
 lt:g<w.heap.size
 c0:w.cell? ⟨g,o,none⟩=some (.int .i64 t.kind)
 c1:w.cell? ⟨g,o+1,none⟩=some (.string ⟨t.reg.toArray⟩)
 c2:w.cell? ⟨g,o+2,none⟩=some (.string ⟨t.name.toArray⟩)
 c3:w.cell? ⟨g,o+3,none⟩=some (.slice AE nE cE)
 c4:w.cell? ⟨g,o+4,none⟩=some (.slice AF nF cF)
 c5:w.cell? ⟨g,o+5,none⟩=some (.int .i64 t.n)
 c6:w.cell? ⟨g,o+6,none⟩=some (.int .i64 t.body)
 c7:w.cell? ⟨g,o+7,none⟩=some (.int .i64 t.els)
 c8:w.cell? ⟨g,o+8,none⟩=some (.int .i64 t.pl)
 re:BA w (.slice AE nE cE) t.e
 rf:BA w (.slice AF nF cF) t.f
theorem At9.on {w w':World} {g o:Nat} {t:Stm} {AE:Option Addr} {nE cE:Nat} {AF:Option Addr} {nF cF:Nat} (h:At9 w g o t AE nE cE AF nF cF) (hb:Below w.heap.size w w'):At9 w' g o t AE nE cE AF nF cF:=by
 obtain⟨lt,c0,c1,c2,c3,c4,c5,c6,c7,c8,re,rf⟩:=h
 have e:∀q,w'.cell? ⟨g,q,none⟩=w.cell? ⟨g,q,none⟩:=fun q=>hb.cell (p:=⟨g,q,none⟩) lt
 exact⟨Nat.lt_of_lt_of_le lt hb.size,by rw[e,c0],by rw[e,c1],by rw[e,c2],by rw[e,c3],by rw[e,c4],by rw[e,c5],by rw[e,c6],by rw[e,c7],by rw[e,c8],re.on hb,rf.on hb⟩
def BI (w:World) (v:Value) (L:List Stm):Prop:=
 ∃A c,v=.slice A L.length c∧L.length≤c∧c≤maxLen∧(∀i t,L[i]?=some t→∃g o AE nE cE AF nF cF,A=some ⟨g,o,none⟩∧At9 w g (o+i*9) t AE nE cE AF nF cF)
theorem BI.on {w w':World} {v:Value} {L:List Stm} (h:BI w v L) (hb:Below w.heap.size w w'):BI w' v L:=by
 obtain⟨A,c,hv,hc,hm,hr⟩:=h
 refine⟨A,c,hv,hc,hm,fun i t hi=>?_⟩
 obtain⟨g,o,AE,nE,cE,AF,nF,cF,hA,h9⟩:=hr i t hi
 exact⟨g,o,AE,nE,cE,AF,nF,cF,hA,h9.on hb⟩
theorem BI.part {w:World} {g o n c k j:Nat} {L:List Stm} (h:BI w (.slice (some ⟨g,o,none⟩) n c) L) (hk:k≤j) (ht:j≤n):BI w (.slice (some ⟨g,o+k*9,none⟩) (j-k) (c-k)) ((L.take j).drop k):=by
 obtain⟨A,c',hv,hc,hm,hr⟩:=h
 simp only[Value.slice.injEq]at hv
 obtain⟨rfl,rfl,rfl⟩:=hv
 refine⟨_,_,by rw[List.length_drop,List.length_take,Nat.min_eq_left ht],by rw[List.length_drop,List.length_take,Nat.min_eq_left ht];omega,by omega,fun i t hi=>?_⟩
 rw[List.getElem?_drop,List.getElem?_take]at hi
 split at hi
 ·obtain⟨g',o',AE,nE,cE,AF,nF,cF,hA,h9⟩:=hr (k+i) t hi
  simp only[Option.some.injEq,Addr.mk.injEq]at hA
  obtain⟨rfl,rfl,_⟩:=hA
  rw[show o+(k+i)*9=o+k*9+i*9 from by omega]at h9
  exact⟨g,o+k*9,AE,nE,cE,AF,nF,cF,rfl,h9⟩
 ·cases hi
theorem V9 (w:World):BI w (.slice none 0 0) []:=⟨none,0,rfl,Nat.le_refl _,Nat.zero_le _,fun i t h=>by simp at h⟩
def QEn (x:Stm) (l n:Nat):Prop:=JE x n∧¬(x.kind=13∧l=0)
instance (x:Stm) (l n:Nat):Decidable (QEn x l n):=inferInstanceAs (Decidable (_∧¬_))
theorem Pg (x:Stm) (r:List Stm):Dx (x::r)=if JE x r.length then
   match Dx (Dv x r),Dx (Dl x r),Dx (Dw x r)with
   |some b,some e,some t=>some (.cons x b e t)
   |_,_,_=>none
  else none:=by
 show H7 (r.length+1) (x::r)=_
 unfold H7
 split
 ·rename_i h
  obtain⟨h1,h2,h3⟩:=Nh h
  have hh:=h
  obtain⟨g1,g2,_⟩:=hh
  rw[PP (by omega),PP (by omega),PP (by omega)]
  cases Dx (Dv x r)<;>cases Dx (Dl x r)<;>cases Dx (Dw x r)<;>rfl
 ·rfl
theorem WE {k:Nat} (h:k<15):QEi k=Dp k:=by
 have:∀k:Fin 15,QEi (k.1:Int)=Dp k.1:=by decide
 exact this ⟨k,h⟩
theorem BI.cutAt {w:World} {g o n c k j m d:Nat} {L M:List Stm} {A:Option Addr} (h:BI w (.slice (some ⟨g,o,none⟩) n c) L) (hk:k≤j) (ht:j≤n) (hm:m=j-k) (hd:d=c-k) (hA:k<c→A=some ⟨g,o+k*9,none⟩) (hM:M=(L.take j).drop k):BI w (.slice A m d) M:=by
 subst hm hd hM
 by_cases hc:k<c
 ·rw[hA hc];exact h.part hk ht
 ·obtain⟨A',c',hv,hc',hm,hr⟩:=h
  simp only[Value.slice.injEq]at hv
  obtain⟨rfl,rfl,rfl⟩:=hv
  have hz:((L.take j).drop k).length=0:=by rw[List.length_drop,List.length_take];omega
  rw[List.length_eq_zero_iff.1 hz]
  refine⟨A,c-k,by rw[show j-k=0 from by omega];rfl,Nat.zero_le _,by omega,fun i t h=>by simp at h⟩
def QEo (L M N:List Stm) (w:World) (e:Ending) (w':World):Prop:=
 ∃v1 v2 v3,e=.returned (.tuple #[v1,v2,v3])∧BI w' v1 L∧BI w' v2 M∧BI w' v3 N∧Below w.heap.size w w'
set_option maxRecDepth 100000 in
set_option maxHeartbeats 4000000 in
theorem Kr (v:Value) (x:Stm) (r:List Stm) (w:World) (h:BI w v (x::r)) (hh:JE x r.length) (hl:r.length≤10000):Calls Tryz.prog 205 #[v] w (QEo (Dv x r) (Dl x r) (Dw x r) w):=by
 have HL:=AA h
 obtain⟨A,c,rfl,hc,hm,hr⟩:=h
 obtain⟨g,o,AE,nE,cE,AF,nF,cF,rfl,h9⟩:=hr 0 x rfl
 obtain⟨lt9,x0,x1,x2,x3,x4,x5,x6,x7,x8,_,_⟩:=h9
 clear hr x0 x1 x2 x3 x4 x5 x8
 obtain⟨h1,h2,h3,_⟩:=hh
 obtain⟨b,hb⟩:∃b:Nat,x.body=b:=⟨x.body.toNat,by omega⟩
 obtain⟨e,he⟩:∃e:Nat,x.els=e:=⟨x.els.toNat,by omega⟩
 rw[hb]at x6 h3
 rw[he]at x7 h3
 have HB:=AA hb
 have HE:=AA he
 clear hb he h1 h2
 have hlen:(x::r).length=r.length+1:=rfl
 rw[hlen]at hc⊢
 have hbe:b+e≤r.length:=by omega
 unfold maxLen at hm
 simp only[Nat.zero_mul,Nat.add_zero]at x6 x7
 have i1:IntKind.i64.wrap (1+(b:Int))=1+b:=IntWalk.i64_in _ (by omega)
 have i2:IntKind.i64.wrap (1+(b:Int)+e)=1+b+e:=IntWalk.i64_in _ (by omega)
 go_enter Tryz.func205,Tryz.ntmps205
 go_wp2_with fail
 go_quiet (fail)
 generalize hA1:(if c=1 then some (⟨g,o,none⟩:Addr)else some ⟨g,o+9,none⟩)=A1
 generalize hA2:(if c=1+b then some (⟨g,o,none⟩:Addr)else some ⟨g,o+(1+b)*9,none⟩)=A2
 generalize hA3:(if c=1+b+e then some (⟨g,o,none⟩:Addr)else some ⟨g,o+(1+b+e)*9,none⟩)=A3
 have eb:x.body.toNat=b:=by have:=HB.out;omega
 have ee:x.els.toNat=e:=by have:=HE.out;omega
 have g1:BI w (.slice A1 (1+b-1) (c-1)) (Dv x r):=HL.out.cutAt (k:=1) (j:=1+b) (by omega) (by rw[hlen];omega) rfl rfl (fun hk=>by rw[←hA1,if_neg (by omega),Nat.one_mul]) (by unfold Dv;rw[eb,Nat.add_comm 1 b];rfl)
 have g2:BI w (.slice A2 (1+b+e-(1+b)) (c-(1+b))) (Dl x r):=HL.out.cutAt (k:=1+b) (j:=1+b+e) (by omega) (by rw[hlen];omega) rfl rfl (fun hk=>by rw[←hA2,if_neg (by omega)]) (by
  unfold Dl;rw[eb,ee,show 1+b+e=(b+e)+1 from by omega,Nat.add_comm 1 b]
  show _=(r.take (b+e)).drop b
  rw[List.drop_take];congr 1;omega)
 have g3:BI w (.slice A3 (r.length+1-(1+b+e)) (c-(1+b+e))) (Dw x r):=HL.out.cutAt (k:=1+b+e) (j:=r.length+1) (by omega) (by rw[hlen];omega) rfl rfl (fun hk=>by rw[←hA3,if_neg (by omega)]) (by
  unfold Dw;rw[eb,ee,show 1+b+e=(b+e)+1 from by omega]
  show _=((r.take r.length).drop (b+e))
  rw[List.take_length])
 have G1:=AA g1
 have G2:=AA g2
 have G3:=AA g3
 clear g1 g2 g3 hA1 hA2 hA3
 go_wp2_with fail
 refine bodyPost_ret (v:=.tuple #[.slice A1 (1+b-1) (c-1),.slice A2 (1+b+e-(1+b)) (c-(1+b)),.slice A3 (r.length+1-(1+b+e)) (c-(1+b+e))]) (by simp[results,Tryz.results205,go_sem]) rfl ?_
 exact⟨_,_,_,rfl,G1.out.on (AO _ _),G2.out.on (AO _ _),G3.out.on (AO _ _),AO _ _⟩
end Go.Proofs.YthfkpalfopdmhaaGreatDoor

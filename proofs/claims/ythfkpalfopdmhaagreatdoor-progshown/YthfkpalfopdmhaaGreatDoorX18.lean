/- Texts of the walk, packed. -/
import Derived.Test.YthfkpalfopdmhaaGreatDoorX15
import Derived.Test.YthfkpalfopdmhaaGreatDoorX08
import Derived.Test.YthfkpalfopdmhaaGreatDoorX17
import Derived.Test.YthfkpalfopdmhaaGreatDoorX00
namespace Go.Proofs.YthfkpalfopdmhaaGreatDoor
open Go.RowKit
theorem JK (b:Bk):b.deep≤b.count:=by
 induction b with
 |nil=>exact Nat.le_refl _
 |cons s b e r h1 h2 h3=>
  simp only[Bk.deep,Bk.count];split<;>omega
theorem EO {l:List UInt8} (h:nameB l=true):l.length≤16:=by
 unfold nameB at h;simp only[Bool.and_eq_true,decide_eq_true_eq]at h;exact h.1.1.1.2
theorem J8 {l:List Nod} (h:BZ l=true):(Bi l).length≤840:=by
 obtain⟨x,rfl,h1,h2,h3,h4,_⟩:=Gs h;rw[h4];exact RQ h1 h3
theorem I6 {l:List Nod} (h:BZ l=true):l.length≤10000∧Fa l:=by
 obtain⟨x,rfl,h1,h2,h3,h4,_⟩:=Gs h;refine⟨by rw[B7];omega,fun a ha=>?_⟩;have:=Nj h1.2 a ha;omega
theorem QA3 {x:Stm} (h:Dy x=true):(I4 x).length≤1800:=by
 obtain⟨k,hk,h1,h2⟩:=Hk h;obtain⟨_,_,_,hr,hn,he,hf,ht⟩:=J5 hk h;have hrl:x.reg.length≤16:=by
  split at hr
  ·exact EO hr
  ·rw[List.isEmpty_iff.1 hr];simp
 have hnl:x.name.length≤16:=by
  split at hn
  ·exact EO hn
  ·rw[List.isEmpty_iff.1 hn];simp
 have nil0:(Bi []).length≤840:=by decide
 have hel:(Bi x.e).length≤840:=by
  split at he
  ·exact J8 he
  ·rw[List.isEmpty_iff.1 he];exact nil0
 have hfl:(Bi x.f).length≤840:=by
  split at hf
  ·exact J8 hf
  ·rw[List.isEmpty_iff.1 hf];exact nil0
 have kwl:∀k:Fin 15,(Jr (k.1:Nat)).length≤6:=by decide
 have kwk:(Jr x.kind).length≤6:=by rw[hk];exact kwl ⟨k,by omega⟩
 have k2:(Jr 2).length≤6:=by decide
 have k3:(Jr 3).length≤6:=by decide
 have k4:(Jr 4).length≤6:=by decide
 have k12:(Jr 12).length≤6:=by decide
 unfold I4;split
 ·simp only[List.length_append,List.length_cons,List.length_nil];omega
 split
 ·simp only[List.length_append,List.length_cons,List.length_nil];omega
 split
 ·simp only[List.length_append,List.length_cons,List.length_nil];omega
 split
 ·simp only[List.length_append,List.length_cons,List.length_nil];omega
 split
 ·simp only[List.length_append,List.length_cons];omega
 split
 ·rename_i h12
  have hkk:k=12:=by omega
  rw[if_pos hkk]at ht;have ht':1≤x.n∧x.n≤8:=by simpa using ht
  have hil:(Lib.itoa x.n).length≤20:=by
   obtain⟨u,hu⟩:∃u:Nat,x.n=u:=⟨x.n.toNat,by omega⟩
   rw[hu,Lib.itoa_nonneg,RD (by omega)];simp
  simp only[List.length_append,List.length_cons];omega
 split
 ·omega
 ·simp only[List.length_append,List.length_cons];omega
theorem RV:∀(b:Bk) (ind:List UInt8),FV b→(Bw ind b).length≤b.count*(3*ind.length+6*b.count+2000):=by
 intro b
 induction b with
 |nil=>intro ind _;simp[Bw]
 |cons s b e r i1 i2 i3=>
  intro ind h;obtain⟨_,_,_,_,g1,g2,g3,g4⟩:=Gt.1 h;have h1:=i1 (ind++[32,32]) g2;have h2:=i2 (ind++[32,32]) g3;have h3:=i3 ind g4;have hh:=QA3 g1;have he:FU.length=4:=rfl;generalize hK:3*ind.length+6*(Bk.cons s b e r).count+2000=K;have hc:(Bk.cons s b e r).count=b.count+e.count+r.count+1:=rfl;have m1:(Bw (ind++[32,32]) b).length≤b.count*K:=Nat.le_trans h1 (Nat.mul_le_mul_left _ (by rw[List.length_append];simp only[List.length_cons,List.length_nil];omega))
  have m2:(Bw (ind++[32,32]) e).length≤e.count*K:=Nat.le_trans h2 (Nat.mul_le_mul_left _ (by rw[List.length_append];simp only[List.length_cons,List.length_nil];omega));have m3:(Bw ind r).length≤r.count*K:=Nat.le_trans h3 (Nat.mul_le_mul_left _ (by omega));rw[hc,Nat.add_mul,Nat.add_mul,Nat.add_mul,Nat.one_mul];have hK2:3*ind.length+2000≤K:=by omega
  unfold Bw;split
  ·split
   ·simp only[List.length_append,List.length_cons,List.length_nil];omega
   ·simp only[List.length_append,List.length_cons,List.length_nil];omega
  ·simp only[List.length_append,List.length_cons,List.length_nil];omega
theorem Kv {b:Bk} {ind:List UInt8} (h:FV b) (hc:b.count≤40) (hi:ind.length≤100):(Bw ind b).length≤1000000:=by
 have h1:=RV b ind h;have h2:b.count*(3*ind.length+6*b.count+2000)≤40*(3*ind.length+6*b.count+2000):=Nat.mul_le_mul_right _ hc;omega
end Go.Proofs.YthfkpalfopdmhaaGreatDoor
namespace Go.Proofs.YthfkpalfopdmhaaGreatDoor
open Go
theorem VA {t:Thr} (h:Bh true t=true) {L:List Tok} {i f:Nat} {R:List Tok} (hF:Aj L i (FC t++R)) (hf:L.length+1≤f+i):
  isB L i DJ=true∧∃t' j,DT L f i=some (.ok t' j)∧Br t'=Br t∧Aj L j R∧i<j∧j≤L.length:=by
 unfold FC at hF;rw[List.cons_append,List.cons_append]at hF;have hk:=Xo hF;obtain⟨_,_,_,hF1⟩:=Aj.head hF;obtain⟨e1,hF2⟩:=Ha (IY h).1 hF1;obtain⟨t',j,r1,r2,r3,r4,r5⟩:=U9 h hF2 (f:=f) (by omega) t.name (AT L ((i+1:Nat):Int)) rfl;refine⟨hk,t',j,?_,r2,r3,by omega,r5⟩;unfold DT;rw[e1,RS.obind_ok];exact r1
theorem QBR {t:Thr} (h:Bh false t=true) {L:List Tok} {i f:Nat} {R:List Tok} (hF:Aj L i (JA t++R)) (hf:L.length+1≤f+i):
  ∃t' j,KP L f i=some (.ok [t'] j)∧Br t'=Br t∧Aj L j R∧i<j∧j≤L.length:=by
 unfold JA at hF;rw[List.cons_append]at hF;have hk:=Xo hF;obtain⟨_,_,_,hF1⟩:=Aj.head hF;have hn:t.name=[]:=List.isEmpty_iff.1 (IY h).1;obtain⟨t',j,r1,r2,r3,r4,r5⟩:=U9 h hF1 (f:=f) (by omega) [] (AT L i) hn.symm;refine⟨t',j,?_,r2,r3,by omega,r5⟩;unfold KP;rw[if_pos hk,r1,RS.obind_ok]
theorem Wh {c:Clm} (h:Ef c=true) {L:List Tok} {i:Nat} {R:List Tok} (hF:Aj L i (Dt c++R)):
  isB L i CG=true∧∃c' j,some (E8 L (i+1) (AT L i))=some (.ok c' j)∧DR c'=DR c∧Aj L j R∧i<j∧j≤L.length:=by
 unfold Ef at h;rw[Bool.and_eq_true]at h;unfold Dt at hF;rw[List.cons_append,List.append_assoc]at hF;have hk:=Xo hF;obtain⟨_,_,_,hF1⟩:=Aj.head hF;obtain⟨l',e2,e1⟩:=LP h.2 (.inl rfl) hF1;have e3:=Aj.app hF1;obtain⟨e4,hF3⟩:=FR e3;have hlt:=e3.le;refine⟨hk,⟨l',AT L i⟩,_,?_,by unfold DR;rw[e2],hF3,by omega,by omega⟩;unfold E8;rw[e1,RS.bind_ok,e4,RS.bind_ok]
theorem Rm (w:List UInt8) (l:List Cel):Jg w l=(if l.isEmpty then[]else[l]).flatMap (Ft w):=by
 unfold Jg;split
 ·rfl
 ·simp
theorem NM {l:List Cel} {ls:List (List Cel)} (h:ls.map (·.map bareCel)=(if l.isEmpty then[]else[l]).map (·.map bareCel)):ls.flatten.map bareCel=l.map bareCel:=by
 have h1:=congrArg List.flatten h;rw[←List.map_flatten,←List.map_flatten]at h1;rw[h1];split
 ·rename_i he;rw[List.isEmpty_iff.1 he];rfl
 ·simp
theorem ZR {p:Prg} (h:BP p=true) {T:List Tok} (hT:T.map Tok.bare=QK p):∃p' j,GX T (T.length+1)=some (.ok p' j)∧Cm p'=Cm p:=by
 obtain⟨h1,h2,h3,h4,h5,h6,h7⟩:=Kz h;have hF:Aj T 0 (QK p):=by unfold Aj;rw[List.drop_zero,hT]
 unfold QK at hF;rw[Rm,Rm]at hF;rw[List.all_eq_true]at h1 h2 h5 h6;have f6:Fv [CG] (p.claims.flatMap Dt):=Iu (by simp) (fun _=>⟨_,rfl⟩) _;have up:∀{ks ks':List (List UInt8)} {R:List Tok},(∀k∈ks,k∈ks')→Fv ks R→Fv ks' R:=fun hs hR=>hR.imp id (fun⟨k,hk,T,e⟩=>⟨k,hs k hk,T,e⟩)
 have f5:Fv [BU,CG] (p.recs.flatMap JA++p.claims.flatMap Dt):=LS (Iu (k:=BU) (by simp) (fun _=>⟨_,rfl⟩) _) (up (by simp) f6);have f4:Fv [DJ,BU,CG] (p.threads.flatMap FC++(p.recs.flatMap JA++p.claims.flatMap Dt)):=LS (Iu (k:=DJ) (by simp) (fun _=>⟨_,rfl⟩) _) (up (by simp) f5)
 have f3:Fv [Eo,DJ,BU,CG] ((if p.locks.isEmpty then[]else[p.locks]).flatMap (Ft Eo)++(p.threads.flatMap FC++(p.recs.flatMap JA++p.claims.flatMap Dt))):=LS (Iu (k:=Eo) (by simp) (fun _=>⟨_,rfl⟩) _) (up (by simp) f4);have f2:Fv [I2,Eo,DJ,BU,CG] ((if p.vols.isEmpty then[]else[p.vols]).flatMap (Ft I2)++((if p.locks.isEmpty then[]else[p.locks]).flatMap (Ft Eo)++(p.threads.flatMap FC++(p.recs.flatMap JA++p.claims.flatMap Dt)))):=LS (Iu (k:=I2) (by simp) (fun _=>⟨_,rfl⟩) _) (up (by simp) f3)
 obtain⟨ls,i1,a1,a2,a3,a4,a5⟩:=Gy (kw:=FX) (p:=fun i=>Bc true T (T.length+1) (i+1)) (g:=fun l:List Cel=>l.map bareCel) (toks:=Ft FX) p.lines (fun l hl i R hF hi=>by
  have hh:=h1 l hl;unfold EC at hh;rw[Bool.and_eq_true]at hh;have hne:l≠[]:=by intro e;rw[e]at hh;simp at hh
  exact LU hne hh.2 (.inl rfl) hF (by omega)) 0 (T.length+1) _ hF (fun j hj=>Ji f2 (by decide) hj) (by omega) (by omega)
 obtain⟨vs,i2,b1,b2,b3,b4,b5⟩:=Gy (kw:=I2) (p:=fun i=>Bc true T (T.length+1) (i+1)) (g:=fun l:List Cel=>l.map bareCel) (toks:=Ft I2) (if p.vols.isEmpty then[]else[p.vols]) (fun l hl i R hF hi=>by
  split at hl
  ·cases hl
  ·rename_i he
   simp at hl;subst hl;exact LU (fun e=>he (by rw[e];rfl)) h3 (.inl rfl) hF (by omega)) i1 (T.length+1) _ a3 (fun j hj=>Ji f3 (by decide) hj) (by omega) a5
 obtain⟨ks,i3,c1,c2,c3,c4,c5⟩:=Gy (kw:=Eo) (p:=fun i=>Bc false T (T.length+1) (i+1)) (g:=fun l:List Cel=>l.map bareCel) (toks:=Ft Eo) (if p.locks.isEmpty then[]else[p.locks]) (fun l hl i R hF hi=>by
  split at hl
  ·cases hl
  ·rename_i he
   simp at hl;subst hl;rw[List.all_eq_true]at h4;exact LU (fun e=>he (by rw[e];rfl)) (by rw[List.all_eq_true];exact fun c hc=>KF (h4 c hc)) (.inr fun c hc=>by have:=LR (h4 c hc);omega) hF (by omega)) i2 (T.length+1) _ b3 (fun j hj=>Ji f4 (by decide) hj) (by omega) b5
 obtain⟨ts,i4,d1,d2,d3,d4,d5⟩:=Gy (kw:=DJ) (p:=DT T (T.length+1)) (g:=Br) (toks:=FC) p.threads (fun t ht i R hF hi=>VA (h5 t ht) hF (by omega)) i3 (T.length+1) _ c3 (fun j hj=>Ji f5 (by decide) hj) (by omega) c5;have hrec:∃rs i5,KP T (T.length+1) i4=some (.ok rs i5)∧rs.map Br=p.recs.map Br∧Aj T i5 (p.claims.flatMap Dt)∧i4≤i5∧i5≤T.length:=by
  match hp:p.recs,h7 with
  |[],_=>
   rw[hp]at d3;rw[List.flatMap_nil,List.nil_append]at d3;refine⟨[],i4,?_,rfl,d3,Nat.le_refl _,d5⟩;unfold KP;rw[if_neg (by rw[Ji f6 (by decide) d3];simp)]
  |[t],_=>
   rw[hp]at d3;rw[List.flatMap_cons,List.flatMap_nil,List.append_nil]at d3;obtain⟨t',j,r1,r2,r3,r4,r5⟩:=QBR (h6 t (by rw[hp];simp)) d3 (f:=T.length+1) (by omega);exact⟨[t'],j,r1,by simp[r2],r3,by omega,r5⟩
  |a::b::l,h7=>simp at h7
 obtain⟨rs,i5,e1,e2,e3,e4,e5⟩:=hrec;have e3':Aj T i5 (p.claims.flatMap Dt++[]):=by rw[List.append_nil];exact e3
 obtain⟨cs,i6,g1,g2,g3,g4,g5⟩:=Gy (kw:=CG) (p:=fun i=>some (E8 T (i+1) (AT T i))) (g:=DR) (toks:=Dt) p.claims (fun c hc i R hF hi=>Wh (h2 c hc) hF) i5 (T.length+1) [] e3' (fun j hj=>Xb hj _) (by omega) e5;refine⟨⟨ls,vs.flatten,ks.flatten,ts,rs,cs⟩,i6,?_,?_⟩
 ·unfold GX OB Ri OC Je LQ;rw[a1,RS.obind_ok,b1,RS.obind_ok,c1,RS.obind_ok,d1,RS.obind_ok,e1,RS.obind_ok,g1,RS.obind_ok];unfold L9;have:=Aj.none g3;rw[if_neg (by omega)]
 ·unfold Cm;simp only[Prg.mk.injEq];exact⟨a2,NM b2,NM c2,d2,e2,g2⟩
theorem ZS {p:Prg} (h:BP p=true) (hl:(Ek p).length≤4000):∃p',Bm (Ek p)=⟨p',0,0⟩∧Cm p'=Cm p:=by
 obtain⟨T,h1,h2⟩:=ZO h;obtain⟨p',j,h3,h4⟩:=ZR h h1;refine⟨p',?_,h4⟩;unfold Bm;rw[if_neg (by omega),h2];show(if(0:Int)=0 then Rj ((GX T (T.length+1)).getD (.bad 0 0))else _)=_;rw[if_pos rfl,h3];rfl
theorem Xp {n:Nat} {L:List Tok} (hn:n≤4000) (hL:TF n L) (i:Int):Le (AT L i)=true:=by
 have:=Kr (n:=n) (fun t ht=>(hL t ht).1) i;unfold Le;simp only[Bool.and_eq_true,decide_eq_true_eq];omega
def TP (num:Bool):Int:=if num then most32 else 0
theorem ZT {n:Nat} {L:List Tok} (hL:TF n L) {i:Nat} {m:Int} (h:numAt L i=some m):0≤m∧m≤most32:=by
 unfold numAt at h;split at h
 ·rename_i t ht
  split at h
  ·simp at h;subst h;exact(hL t (List.mem_of_getElem? ht)).2
  ·cases h
 ·cases h
theorem QEw {n:Nat} {L:List Tok} (hn:n≤4000) (hL:TF n L) {num:Bool} {i j:Nat} {c:Cel} (h:Fj num L i=.ok c j):Aw (TP num) c=true:=by
 unfold Fj at h;obtain⟨s,k,h1,h2⟩:=Ar h;have hs:=II h1;have hp:=Xp hn hL i;split at h2
 ·rename_i hc
  split at h2
  ·rename_i m hm
   obtain⟨g1,g2⟩:=ZT hL hm;simp only[RS.ok.injEq]at h2;rw[←h2.1];unfold Aw TP;rw[hc.1];simp[hs,hp,g1,g2]
  ·unfold badR at h2;cases h2
 ·simp only[RS.ok.injEq]at h2;rw[←h2.1];unfold Aw TP;cases num<;>simp[hs,hp,most32]
theorem Om {n:Nat} {L:List Tok} (hn:n≤4000) (hL:TF n L) {num:Bool}:∀(f i j:Nat) (l:List Cel),Bc num L f i=some (.ok l j)→l≠[]∧l.all (Aw (TP num))=true:=by
 intro f
 induction f with
 |zero=>intro i j l h;cases h
 |succ f ih=>
  intro i j l h;unfold Bc at h;rcases RS.obind_some h with⟨c,k,h1,h2⟩|⟨e,p,_,h2⟩
  ·have hc:=QEw hn hL (Option.some.inj h1);split at h2
   ·rcases RS.obind_some h2 with⟨r,k2,h3,h4⟩|⟨e,p,_,h4⟩
    ·obtain⟨_,g2⟩:=ih _ _ _ h3;have:=Option.some.inj h4;simp only[RS.ok.injEq]at this;rw[←this.1];exact⟨by simp,by rw[List.all_cons,hc,g2];rfl⟩
    ·cases h4
   ·rcases RS.obind_some h2 with⟨r,k2,h3,h4⟩|⟨e,p,_,h4⟩
    ·have:=Option.some.inj h4;simp only[RS.ok.injEq]at this;rw[←this.1];exact⟨by simp,by rw[List.all_cons,hc];rfl⟩
    ·cases h4
  ·cases h2
theorem K0 {α:Type} {L:List Tok} {kw:List UInt8} {p:Nat→Option (RS α)} {Q:α→Prop} (hp:∀i a j,p i=some (.ok a j)→Q a):∀(f i j:Nat) (l:List α),Bj L kw p f i=some (.ok l j)→∀a∈l,Q a:=by
 intro f
 induction f with
 |zero=>intro i j l h;cases h
 |succ f ih=>
  intro i j l h;unfold Bj at h;split at h
  ·rcases RS.obind_some h with⟨c,k,h1,h2⟩|⟨e,q,_,h2⟩
   ·rcases RS.obind_some h2 with⟨r,k2,h3,h4⟩|⟨e,q,_,h4⟩
    ·have:=Option.some.inj h4;simp only[RS.ok.injEq]at this;rw[←this.1];intro a ha;rcases List.mem_cons.1 ha with rfl|ha
     ·exact hp _ _ _ h1
     ·exact ih _ _ _ h3 a ha
    ·cases h4
   ·cases h2
  ·have:=Option.some.inj h;simp only[RS.ok.injEq]at this;rw[←this.1];intro a ha;cases ha
theorem QDW {n:Nat} {L:List Tok} (hn:n≤4000) (hL:TF n L) {f i o j:Nat} {l:List Stm} (h:Fo L f i o=some (.ok l j)):CH l=true:=by
 unfold Fo at h;rcases RS.obind_some h with⟨b,k,h1,h2⟩|⟨e,q,_,h2⟩
 ·obtain⟨g1,g2,g3⟩:=QEm hn hL f _ _ _ _ _ (by omega) h1;rcases RS.obind_some h2 with⟨_,k2,h3,h4⟩|⟨e,q,_,h4⟩
  ·split at h4
   ·cases h4
   ·rename_i hc
    have:=Option.some.inj h4;simp only[RS.ok.injEq]at this;rw[←this.1];exact OP g1 (by omega) g2 (by omega)
  ·cases h4
 ·cases h2
theorem QBS {n:Nat} {L:List Tok} (hn:n≤4000) (hL:TF n L) {f i j:Nat} {name:List UInt8} {pl:Int} {t:Thr} (h:IJ L f i name pl=some (.ok t j)) (named:Bool) (hnm:(if named then nameB name else name.isEmpty)=true) (hp:Le pl=true):Bh named t=true:=by
 unfold IJ at h;rcases RS.obind_some h with⟨_,k,h1,h2⟩|⟨e,q,_,h2⟩
 ·rcases RS.obind_some h2 with⟨rs,k2,h3,h4⟩|⟨e,q,_,h4⟩
  ·rcases RS.obind_some h4 with⟨b,k3,h5,h6⟩|⟨e,q,_,h6⟩
   ·have hr:=QDW hn hL h5;have hg:rs.all nameB=true:=by
     unfold GM at h3;split at h3
     ·rcases RS.obind_some h3 with⟨l,k4,h7,h8⟩|⟨e,q,_,h8⟩
      ·obtain⟨_,g2⟩:=Om hn hL _ _ _ _ h7;have:=Option.some.inj h8;simp only[RS.ok.injEq]at this;rw[←this.1,List.all_map,List.all_eq_true];rw[List.all_eq_true]at g2;exact fun c hc=>(LR (g2 c hc)).1
      ·cases h8
     ·have:=Option.some.inj h3;simp only[RS.ok.injEq]at this;rw[←this.1];rfl
    have:=Option.some.inj h6;simp only[RS.ok.injEq]at this;rw[←this.1];unfold Bh;simp only[hnm,hp,hr,hg,Bool.and_self]
   ·cases h6
  ·cases h4
 ·cases h2
theorem Wi {n:Nat} {T:List Tok} (hn:n≤4000) (hL:TF n T) {f j:Nat} {p:Prg} (h:GX T f=some (.ok p j)):BP p=true:=by
 unfold GX at h;rcases RS.obind_some h with⟨ls,i1,h1,h⟩|⟨e,q,_,h⟩;case inr=>cases h
 rcases RS.obind_some h with⟨vs,i2,h2,h⟩|⟨e,q,_,h⟩;case inr=>cases h
 rcases RS.obind_some h with⟨ks,i3,h3,h⟩|⟨e,q,_,h⟩;case inr=>cases h
 rcases RS.obind_some h with⟨ts,i4,h4,h⟩|⟨e,q,_,h⟩;case inr=>cases h
 rcases RS.obind_some h with⟨rs,i5,h5,h⟩|⟨e,q,_,h⟩;case inr=>cases h
 rcases RS.obind_some h with⟨cs,i6,h6,h⟩|⟨e,q,_,h⟩;case inr=>cases h
 have he:=Option.some.inj h;unfold L9 at he;split at he
 ·unfold badR at he;cases he
 simp only[RS.ok.injEq]at he;rw[←he.1];have g1:=K0 (Q:=fun l=>EC l=true) (fun i a j h=>by
  obtain⟨q1,q2⟩:=Om hn hL _ _ _ _ h;unfold EC;have:a.isEmpty=false:=by cases a with
   |nil=>exact absurd rfl q1
   |cons x l=>rfl
  rw[this];exact q2) _ _ _ _ h1
 have g2:=K0 (Q:=fun l=>l.all (Aw most32)=true) (fun i a j h=>(Om hn hL _ _ _ _ h).2) _ _ _ _ h2;have g3:=K0 (Q:=fun l=>l.all (Aw 0)=true) (fun i a j h=>(Om hn hL _ _ _ _ h).2) _ _ _ _ h3;have g4:=K0 (Q:=fun t=>Bh true t=true) (fun i a j h=>by
  unfold DT at h;rcases RS.obind_some h with⟨s,k,q1,q2⟩|⟨e,q,_,q2⟩
  ·exact QBS hn hL q2 true (II (Option.some.inj q1)) (Xp hn hL _)
  ·cases q2) _ _ _ _ h4
 have g5:rs.all (Bh false)=true∧rs.length≤1:=by
  unfold KP at h5;split at h5
  ·rcases RS.obind_some h5 with⟨t,k,q1,q2⟩|⟨e,q,_,q2⟩
   ·have:=Option.some.inj q2;simp only[RS.ok.injEq]at this;rw[←this.1];have:=QBS hn hL q1 false rfl (Xp hn hL _);exact⟨by rw[List.all_cons,this];rfl,by simp⟩
   ·cases q2
  ·have:=Option.some.inj h5;simp only[RS.ok.injEq]at this;rw[←this.1];exact⟨rfl,by simp⟩
 have g6:=K0 (Q:=fun c=>Ef c=true) (fun i a j h=>by
  have h:=Option.some.inj h;unfold E8 at h;obtain⟨l,k,q1,q2⟩:=Ar h;obtain⟨_,k2,q3,q4⟩:=Ar q2;simp only[RS.ok.injEq]at q4;rw[←q4.1];unfold Ef;rw[LJ hn hL q1,Xp hn hL];rfl) _ _ _ _ h6
 have fl:∀{m:Int} {l:List (List Cel)},(∀a∈l,a.all (Aw m)=true)→l.flatten.all (Aw m)=true:=by
  intro m l hl;rw[List.all_eq_true];intro c hc;obtain⟨a,ha,hca⟩:=List.mem_flatten.1 hc;exact List.all_eq_true.1 (hl a ha) c hca
 unfold BP;simp only[Bool.and_eq_true,decide_eq_true_eq];exact⟨⟨⟨⟨⟨⟨List.all_eq_true.2 g1,List.all_eq_true.2 g6⟩,fl g2⟩,fl g3⟩,List.all_eq_true.2 g4⟩,g5.1⟩,g5.2⟩
theorem Gz (num:Bool) (L:List Tok) (i:Nat):Ec L i (Fj num L i):=by
 unfold Fj;refine Az (Aq L i) fun s j hs=>?_
 have hj:=(Aq L i).tq hs;split
 ·split
  ·rename_i m hm
   have hlt:j+1<L.length:=by
    unfold numAt at hm;split at hm
    ·rename_i t ht;exact(List.getElem?_eq_some_iff.1 ht).1
    ·cases hm
   exact⟨by omega,by omega⟩
  ·exact(GL (by omega)).le
 ·exact E4 _ hj
theorem FD {num:Bool} {L:List Tok}:∀(f i:Nat) (r:RS (List Cel)),Bc num L f i=some r→Ec L i r:=by
 intro f
 induction f with
 |zero=>intro i r h;cases h
 |succ f ih=>
  intro i r h;unfold Bc at h;have ha:=Gz num L i;rcases RS.obind_some h with⟨c,k,h1,h2⟩|⟨e,p,h1,rfl⟩
  ·rw[Option.some.inj h1]at ha;obtain⟨a1,a2⟩:=ha;split at h2
   ·rename_i hq
    have:=Bt hq;rcases RS.obind_some h2 with⟨r',k2,h3,h4⟩|⟨e,p,h3,rfl⟩
    ·obtain rfl:=Option.some.inj h4;have:=ih _ _ h3;exact⟨by have:=this.1;omega,this.2⟩
    ·exact ih (k+1) _ h3
   ·have am:=Ae L k [59];rcases RS.obind_some h2 with⟨r',k2,h3,h4⟩|⟨e,p,h3,rfl⟩
    ·obtain rfl:=Option.some.inj h4;rw[Option.some.inj h3]at am;exact⟨by have:=am.1;omega,am.2⟩
    ·rw[Option.some.inj h3]at am;exact am
  ·rw[Option.some.inj h1]at ha;exact ha
theorem QM {num:Bool} {L:List Tok}:∀(f i:Nat),i≤L.length→L.length+1≤f+i→∃r,Bc num L f i=some r:=by
 intro f
 induction f with
 |zero=>intro i h1 h2;omega
 |succ f ih=>
  intro i h1 h2;unfold Bc;refine Ac ⟨_,rfl⟩ fun c k h=>?_
  have ha:=Gz num L i;rw[Option.some.inj h]at ha;split
  ·rename_i hq
   have:=Bt hq;have:=ha.1;exact Ac (ih _ (by omega) (by omega)) fun r k2 _=>⟨_,rfl⟩
  ·exact Ac ⟨_,rfl⟩ fun r k2 _=>⟨_,rfl⟩
structure OD {α:Type} (L:List Tok) (f:Nat) (kw:List UInt8) (p:Nat→Option (RS α)):Prop where
 ahead:∀(i:Nat) r,isB L i kw=true→p i=some r→Ec L i r
 total:∀(i:Nat),isB L i kw=true→L.length+1≤f+i→∃r,p i=some r
theorem BD {α:Type} {L:List Tok} {f0:Nat} {kw:List UInt8} {p:Nat→Option (RS α)} (hp:OD L f0 kw p):∀(f i:Nat) (r:RS (List α)),i≤L.length→Bj L kw p f i=some r→JJ L i r:=by
 intro f
 induction f with
 |zero=>intro i r _ h;cases h
 |succ f ih=>
  intro i r hi h;unfold Bj at h;split at h
  ·rename_i hq
   rcases RS.obind_some h with⟨c,k,h1,h2⟩|⟨e,q,h1,rfl⟩
   ·have ha:=hp.ahead _ _ hq h1;rcases RS.obind_some h2 with⟨r',k2,h3,h4⟩|⟨e,q,h3,rfl⟩
    ·obtain rfl:=Option.some.inj h4;have:=ih _ _ ha.2 h3;exact⟨by have:=this.1;have:=ha.1;omega,this.2⟩
    ·exact ih k _ ha.2 h3
   ·exact hp.ahead _ _ hq h1
  ·obtain rfl:=Option.some.inj h;exact⟨Nat.le_refl _,hi⟩
theorem Hu {α:Type} {L:List Tok} {f0:Nat} {kw:List UInt8} {p:Nat→Option (RS α)} (hp:OD L f0 kw p):∀(f i:Nat),f≤f0→i≤L.length→L.length+1≤f+i→∃r,Bj L kw p f i=some r:=by
 intro f
 induction f with
 |zero=>intro i _ h1 h2;omega
 |succ f ih=>
  intro i hf h1 h2;unfold Bj;split
  ·rename_i hq
   refine Ac (hp.total _ hq (by omega)) fun c k h=>?_
   have ha:=hp.ahead _ _ hq h;have:=ha.1;exact Ac (ih _ (by omega) ha.2 (by omega)) fun r k2 _=>⟨_,rfl⟩
  ·exact⟨_,rfl⟩
theorem G0 {L:List Tok} {f i o:Nat} {r:RS (List Stm)} (hi:i≤L.length) (h:Fo L f i o=some r):Ec L i r:=by
 unfold Fo at h;rcases RS.obind_some h with⟨b,k,h1,h2⟩|⟨e,q,h1,rfl⟩
 ·have ha:=FP L f _ _ _ _ hi h1;have am:=Ae L k [125];rcases RS.obind_some h2 with⟨_,k2,h3,h4⟩|⟨e,q,h3,rfl⟩
  ·rw[Option.some.inj h3]at am;split at h4
   ·obtain rfl:=Option.some.inj h4;exact(by decide:(2:Int)≠0)
   ·obtain rfl:=Option.some.inj h4;exact⟨by have:=am.1;have:=ha.1;omega,am.2⟩
  ·rw[Option.some.inj h3]at am;exact am
 ·exact FP L f _ _ _ _ hi h1
theorem Wm {L:List Tok} {f i o:Nat} (hi:i≤L.length) (hf:L.length+1≤f+i):∃r,Fo L f i o=some r:=by
 unfold Fo;refine Ac (Nv L f i 0 0 hi (by omega)) fun b k _=>Ac ⟨_,rfl⟩ fun _ k2 _=>?_
 split<;>exact⟨_,rfl⟩
theorem Iw {L:List Tok} {f i:Nat} {r:RS (List (List UInt8))} (hi:i≤L.length) (h:GM L f i=some r):JJ L i r:=by
 unfold GM at h;split at h
 ·rcases RS.obind_some h with⟨l,k,h1,h2⟩|⟨e,q,h1,rfl⟩
  ·obtain rfl:=Option.some.inj h2;have:=FD _ _ _ h1;exact⟨by have:=this.1;omega,this.2⟩
  ·exact FD _ _ _ h1
 ·obtain rfl:=Option.some.inj h;exact⟨Nat.le_refl _,hi⟩
theorem Wn {L:List Tok} {f i:Nat} (hf:L.length+1≤f+i):∃r,GM L f i=some r:=by
 unfold GM;split
 ·rename_i hq
  have:=Bt hq;exact Ac (QM f (i+1) (by omega) (by omega)) fun l k _=>⟨_,rfl⟩
 ·exact⟨_,rfl⟩
theorem Jj {L:List Tok} {f i:Nat} {name:List UInt8} {pl:Int} {r:RS Thr} (h:IJ L f i name pl=some r):Ec L i r:=by
 unfold IJ at h;have am:=Ae L i [123];rcases RS.obind_some h with⟨_,k,h1,h2⟩|⟨e,q,h1,rfl⟩
 ·rw[Option.some.inj h1]at am;rcases RS.obind_some h2 with⟨rs,k2,h3,h4⟩|⟨e,q,h3,rfl⟩
  ·have ar:=Iw am.2 h3;rcases RS.obind_some h4 with⟨b,k3,h5,h6⟩|⟨e,q,h5,rfl⟩
   ·have ab:=G0 ar.2 h5;obtain rfl:=Option.some.inj h6;exact⟨by have:=am.1;have:=ar.1;have:=ab.1;omega,ab.2⟩
   ·exact G0 ar.2 h5
  ·exact Iw am.2 h3
 ·rw[Option.some.inj h1]at am;exact am
theorem Rn {L:List Tok} {f i:Nat} {name:List UInt8} {pl:Int} (hf:L.length+1≤f+i):∃r,IJ L f i name pl=some r:=by
 unfold IJ;refine Ac ⟨_,rfl⟩ fun _ k h=>?_
 have am:=Ae L i [123];rw[Option.some.inj h]at am;have h1:=am.1;refine Ac (Wn (by omega)) fun rs k2 h2=>?_
 have ar:=Iw am.2 h2;have h3:=ar.1;exact Ac (Wm ar.2 (by omega)) fun b k3 _=>⟨_,rfl⟩
theorem C0 (num:Bool) (L:List Tok) (f:Nat) (kw:List UInt8):OD L f kw (fun i=>Bc num L f (i+1)):=
 ⟨fun i r hq h=>by
  have:=FD _ _ _ h;cases r with
  |ok a j=>exact⟨by have:=this.1;omega,this.2⟩
  |bad e p=>exact this,fun i hq hf=>by have:=Bt hq;exact QM f (i+1) (by omega) (by omega)⟩
theorem D8 (L:List Tok) (f:Nat):OD L f DJ (DT L f):=by
 refine⟨fun i r hq h=>?_,fun i hq hf=>?_⟩
 ·unfold DT at h;have an:=Aq L (i+1);rcases RS.obind_some h with⟨s,k,h1,h2⟩|⟨e,q,h1,rfl⟩
  ·rw[Option.some.inj h1]at an;have at':=Jj h2;cases r with
   |ok a j=>exact⟨by have:=an.1;have:=at'.1;omega,at'.2⟩
   |bad e p=>exact at'
  ·rw[Option.some.inj h1]at an;exact an
 ·unfold DT;refine Ac ⟨_,rfl⟩ fun s k h=>?_
  have an:=Aq L (i+1);rw[Option.some.inj h]at an;have:=an.1;exact Rn (by omega)
theorem FG (L:List Tok) (f:Nat):OD L f CG (fun i=>some (E8 L (i+1) (AT L i))):=by
 refine⟨fun i r hq h=>?_,fun i _ _=>⟨_,rfl⟩⟩;obtain rfl:=Option.some.inj h;have:Ec L (i+1) (E8 L (i+1) (AT L i)):=by
  unfold E8;exact Az (BQ L _) fun e j he=>(Az (Ae L j _) fun _ k hk=>E4 _ ((Ae L j _).tq hk)).le
 cases hr:E8 L (i+1) (AT L i)with
 |ok a j=>rw[hr]at this;exact⟨by have:=this.1;omega,this.2⟩
 |bad e p=>rw[hr]at this;exact this
theorem Jk {L:List Tok} {f i:Nat} {r:RS (List Thr)} (hi:i≤L.length) (h:KP L f i=some r):JJ L i r:=by
 unfold KP at h;split at h
 ·rcases RS.obind_some h with⟨t,k,h1,h2⟩|⟨e,q,h1,rfl⟩
  ·obtain rfl:=Option.some.inj h2;have:=Jj h1;exact⟨by have:=this.1;omega,this.2⟩
  ·exact Jj h1
 ·obtain rfl:=Option.some.inj h;exact⟨Nat.le_refl _,hi⟩
theorem ZU {L:List Tok} {f i:Nat} (hf:L.length+1≤f+i):∃r,KP L f i=some r:=by
 unfold KP;split
 ·exact Ac (Rn (by omega)) fun t k _=>⟨_,rfl⟩
 ·exact⟨_,rfl⟩
theorem MB (L:List Tok):∃r,GX L (L.length+1)=some r:=by
 unfold GX OB Ri OC Je LQ;refine Ac (Hu (C0 true L _ _) _ 0 (Nat.le_refl _) (by omega) (by omega)) fun ls i1 h1=>?_
 have a1:=BD (C0 true L (L.length+1) _) _ _ _ (by omega) h1;refine Ac (Hu (C0 true L _ _) _ i1 (Nat.le_refl _) a1.2 (by omega)) fun vs i2 h2=>?_
 have a2:=BD (C0 true L (L.length+1) _) _ _ _ a1.2 h2;refine Ac (Hu (C0 false L _ _) _ i2 (Nat.le_refl _) a2.2 (by omega)) fun ks i3 h3=>?_
 have a3:=BD (C0 false L (L.length+1) _) _ _ _ a2.2 h3;refine Ac (Hu (D8 L _) _ i3 (Nat.le_refl _) a3.2 (by omega)) fun ts i4 h4=>?_
 have a4:=BD (D8 L (L.length+1)) _ _ _ a3.2 h4;refine Ac (ZU (by omega)) fun rs i5 h5=>?_
 have a5:=Jk a4.2 h5;exact Ac (Hu (FG L _) _ i5 (Nat.le_refl _) a5.2 (by omega)) fun cs i6 _=>⟨_,rfl⟩
theorem Wp {n:Nat} {L:List Tok} (h:TF n L) (num:Bool) (i:Nat):GZ n (Fj num L i):=by
 unfold Fj;refine(D7 h i).bind fun s j=>?_
 split
 ·split
  ·exact An _ _ _
  ·exact EZ h _ _
 ·exact An _ _ _
theorem JB {n:Nat} {L:List Tok} (h:TF n L) (num:Bool):∀f i,DK n (Bc num L f i):=by
 intro f
 induction f with
 |zero=>intro i r hr;cases hr
 |succ f ih=>
  intro i;unfold Bc;refine(AY (Wp h num i)).obind fun c j=>?_
  split
  ·exact(ih _).obind fun _ _=>AY (An _ _ _)
  ·exact(AY (CM h _ _)).obind fun _ _=>AY (An _ _ _)
theorem VC {n:Nat} {L:List Tok} (h:TF n L) (f i o:Nat):DK n (Fo L f i o):=by
 unfold Fo;refine(Wl h f i 0 0).obind fun b j=>(AY (CM h _ _)).obind fun _ k=>?_
 split
 ·exact AY (fun e p hp=>by
   simp only[RS.bad.injEq]at hp;rw[←hp.2];exact Kr (fun t ht=>(h t ht).1) _)
 ·exact AY (An _ _ _)
theorem QN {n:Nat} {L:List Tok} (h:TF n L) (f i:Nat) (name:List UInt8) (pl:Int):DK n (IJ L f i name pl):=by
 unfold IJ;refine(AY (CM h _ _)).obind fun _ j=>DK.obind ?_ fun rs k=>(VC h f k i).obind fun b m=>AY (An _ _ _)
 unfold GM;split
 ·exact(JB h false f _).obind fun _ _=>AY (An _ _ _)
 ·exact AY (An _ _ _)
theorem Ge {α:Type} {n:Nat} {L:List Tok} {kw:List UInt8} {p:Nat→Option (RS α)} (hp:∀i,DK n (p i)):∀f i,DK n (Bj L kw p f i):=by
 intro f
 induction f with
 |zero=>intro i r hr;cases hr
 |succ f ih=>
  intro i;unfold Bj;split
  ·exact(hp i).obind fun _ j=>(ih _).obind fun _ _=>AY (An _ _ _)
  ·exact AY (An _ _ _)
theorem VD {n:Nat} {L:List Tok} (h:TF n L) (f:Nat):DK n (GX L f):=by
 unfold GX OB Ri OC Je LQ;refine(Ge (fun i=>JB h true f _) _ _).obind fun ls i1=>(Ge (fun i=>JB h true f _) _ _).obind fun vs i2=>(Ge (fun i=>JB h false f _) _ _).obind fun ks i3=>(Ge (fun i=>?_) _ _).obind fun ts i4=>DK.obind ?_ fun rs i5=>(Ge (fun i=>?_) _ _).obind fun cs i6=>AY ?_
 ·unfold DT;exact(AY (D7 h _)).obind fun s j=>QN h f j _ _
 ·unfold KP;split
  ·exact(QN h f _ _ _).obind fun t j=>AY (An _ _ _)
  ·exact AY (An _ _ _)
 ·exact AY ((GN h _).bind fun e j=>(CM h _ _).bind fun _ k=>An _ _ _)
 ·unfold L9;split
  ·exact EZ h _ _
  ·exact An _ _ _
theorem LV:∀{l m:List Cel},l.map bareCel=m.map bareCel→Ad (B8 false) l m=true
 |[],[],_=>rfl
 |[],b::m,h=>by cases h
 |a::l,[],h=>by cases h
 |a::l,b::m,h=>by
  simp only[List.map_cons,List.cons.injEq]at h;unfold Ad;rw[LV h.2,Bool.and_true];have:=h.1;obtain⟨a1,a2,a3⟩:=a;obtain⟨b1,b2,b3⟩:=b;simp only[bareCel,Cel.mk.injEq]at this;simp[B8,this.1,this.2.1]
theorem Jl {α β:Type} {q:α→α→Bool} {g:α→β} (h:∀a b,g a=g b→q a b=true):∀{l m:List α},l.map g=m.map g→Ad q l m=true
 |[],[],_=>rfl
 |[],b::m,h=>by cases h
 |a::l,[],h=>by cases h
 |a::l,b::m,e=>by
  simp only[List.map_cons,List.cons.injEq]at e;unfold Ad;rw[h a b e.1,Jl h e.2];rfl
theorem VE {a b:Thr} (h:Br a=Br b):B0 false a b=true:=by
 obtain⟨a1,a2,a3,a4⟩:=a;obtain⟨b1,b2,b3,b4⟩:=b;simp only[Br,Thr.mk.injEq]at h;obtain⟨h1,h2,h3,_⟩:=h;subst h1 h2;have h4:MX a2 a2=true:=PP (fun a=>by simp) a2;simp[B0,h4,Rf h3]
theorem ZV {l m:List Nod} (h:l.map bareN=m.map bareN):ET false l m=true:=by
 refine Jl (g:=bareN) (fun a b e=>?_) h;obtain⟨a1,a2,a3,a4⟩:=a;obtain⟨b1,b2,b3,b4⟩:=b;simp only[bareN,Nod.mk.injEq]at e;simp[EI,e]
theorem QBT {a b:Clm} (h:DR a=DR b):E7 false a b=true:=by
 obtain⟨a1,a2⟩:=a;obtain⟨b1,b2⟩:=b;simp only[DR,Clm.mk.injEq,and_true]at h;simp[E7,ZV h]
theorem ZW {p q:Prg} (h:Cm p=Cm q):Gw false p q=true:=by
 unfold Cm at h;simp only[Prg.mk.injEq]at h;obtain⟨h1,h2,h3,h4,h5,h6⟩:=h;unfold Gw;have e1:Ad (Ad (B8 false)) p.lines q.lines=true:=Jl (q:=Ad (B8 false)) (fun a b e=>LV e) h1;have e4:Ad (B0 false) p.threads q.threads=true:=Jl (q:=B0 false) (fun a b e=>VE e) h4;have e5:Ad (B0 false) p.recs q.recs=true:=Jl (q:=B0 false) (fun a b e=>VE e) h5;have e6:Ad (E7 false) p.claims q.claims=true:=Jl (q:=E7 false) (fun a b e=>QBT e) h6;rw[e1,LV h2,LV h3,e4,e5,e6];rfl
structure Ea (L M:List Tok) (i:Nat):Prop where
 len:L.length=M.length
 same:∀j:Nat,i≤j→L[j]?=M[j]?
 last:L.getLast?=M.getLast?
theorem Ea.on {L M:List Tok} {i j:Nat} (h:Ea L M i) (hij:i≤j):Ea L M j:=⟨h.len,fun k hk=>h.same k (by omega),h.last⟩
theorem Ea.refl (L:List Tok) (i:Nat):Ea L L i:=⟨rfl,fun _ _=>rfl,rfl⟩
theorem Ea.isB {L M:List Tok} {i:Nat} (h:Ea L M i) (s:List UInt8):isB L i s=isB M i s:=by
 unfold YthfkpalfopdmhaaGreatDoor.isB;rw[Int.toNat_natCast,h.same i (Nat.le_refl _)]
theorem Ea.place {L M:List Tok} {i:Nat} (h:Ea L M i):AT L i=AT M i:=by
 unfold AT;rw[Int.toNat_natCast,h.same i (Nat.le_refl _),h.last]
theorem Ea.plAt {L M:List Tok} {i:Nat} (h:Ea L M i):plAt L i=plAt M i:=by
 unfold YthfkpalfopdmhaaGreatDoor.plAt;rw[h.same i (Nat.le_refl _)]
theorem Ea.sign {L M:List Tok} {i:Nat} (h:Ea L M i) (b:Nat):A9 L b i=A9 M b i:=by
 unfold A9;rw[show(fun op=>En op==(b:Int)&&YthfkpalfopdmhaaGreatDoor.isB L i (A7 op))=(fun op=>En op==(b:Int)&&YthfkpalfopdmhaaGreatDoor.isB M i (A7 op))from funext fun op=>by rw[h.isB]]
theorem Ea.signN {L M:List Tok} {i:Nat} (h:Ea L M i) (b:Nat):signN L b i=signN M b i:=by
 unfold YthfkpalfopdmhaaGreatDoor.signN;rw[h.sign,h.plAt]
theorem Ea.leaf {L M:List Tok} {i:Nat} (h:Ea L M i):Ff L i=Ff M i:=by
 unfold Ff;rw[h.same i (Nat.le_refl _)]
theorem Ea.wrong {L M:List Tok} {i:Nat} (h:Ea L M i) (j:Nat):If L j=If M j:=by
 unfold If;rw[h.len]
theorem QDX {L M:List Tok} {i:Nat} (h:Ea L M i):∀f:Nat,(∀b k d,i≤k→1≤b→b≤6→Ax L f b k d=Ax M f b k d)∧(∀b x k d,i≤k→1≤b→b≤5→ED L f b x k d=ED M f b x k d)∧(∀k d,i≤k→BX L f k d=BX M f k d):=by
 intro f
 induction f with
 |zero=>exact⟨fun b k d _ _ _=>by simp[Ax],fun b x k d _ _ _=>by simp[ED],fun k d _=>by simp[BX]⟩
 |succ f ih=>
  obtain⟨ic,il,is⟩:=ih;refine⟨fun b k d hk hb hb2=>?_,fun b x k d hk hb hb2=>?_,fun k d hk=>?_⟩
  ·rw[Ax,Ax];split
   ·exact is _ _ hk
   ·rw[←ic (b+1) k d hk (by omega) (by omega)];cases hc:Ax L f (b+1) k d with
    |none=>rfl
    |some r=>
     cases r with
     |ok x j=>
      have hf:=(Fg L f).1 _ _ _ _ (by omega) (by omega) hc;have:=hf.1;exact il _ _ _ _ (by omega) hb (by omega)
     |bad e j=>rfl
  ·rw[ED,ED,(h.on hk).sign,(h.on hk).signN,←ic (b+1) (k+1) d (by omega) (by omega) (by omega)];split
   ·rfl
   ·cases hc:Ax L f (b+1) (k+1) d with
    |none=>rfl
    |some r=>
     cases r with
     |ok y j=>
      have hf:=(Fg L f).1 _ _ _ _ (by omega) (by omega) hc;have:=hf.1;simp only;split
      ·rfl
      ·exact il _ _ _ _ (by omega) hb (by omega)
     |bad e j=>rfl
  ·rw[BX,BX,(h.on hk).isB,(h.on hk).sign,(h.on hk).signN,(h.on hk).leaf,←ic 1 (k+1) (d+1) (by omega) (by omega) (by omega),←is (k+1) (d+1) (by omega)];split
   ·split
    ·rfl
    ·cases hc:Ax L f 1 (k+1) (d+1)with
     |none=>rfl
     |some r=>
      cases r with
      |ok y j=>
       have hf:=(Fg L f).1 _ _ _ _ (by omega) (by omega) hc;have:=hf.1;simp only;rw[(h.on (show i≤j by omega)).isB,h.wrong]
      |bad e j=>rfl
   ·rfl
theorem Ea.parse {L M:List Tok} {i:Nat} (h:Ea L M i):F9 L i=F9 M i:=by
 unfold F9;rw[h.len,(QDX h _).1 1 i 0 (Nat.le_refl _) (by omega) (by omega)]
theorem Ea.expr {L M:List Tok} {i:Nat} (h:Ea L M i):EH L i=EH M i:=by
 rw[IS,IS,←h.parse];have hf:=KU L i;cases hp:F9 L i with
 |ok x j=>unfold Ui;rw[h.place]
 |bad e j=>
  rw[hp]at hf;show(⟨[],0,e,AT L j⟩:Parsed)=⟨[],0,e,AT M j⟩
  rw[(h.on hf.2.1).place]
theorem Ea.bad {α:Type} {L M:List Tok} {i:Nat} (h:Ea L M i) (e:Int):(badR L i e:RS α)=badR M i e:=by
 unfold badR;rw[h.len,h.place]
theorem Ea.must {L M:List Tok} {i:Nat} (h:Ea L M i) (s:List UInt8):Bg L i s=Bg M i s:=by
 unfold Bg;rw[h.isB,h.bad]
theorem Ea.name {L M:List Tok} {i:Nat} (h:Ea L M i):BW L i=BW M i:=by
 unfold BW nameAt;rw[h.same i (Nat.le_refl _),h.bad]
theorem Ea.exprP {L M:List Tok} {i:Nat} (h:Ea L M i):exprP L i=exprP M i:=by
 unfold YthfkpalfopdmhaaGreatDoor.exprP;rw[h.expr]
theorem Ea.times {L M:List Tok} {i:Nat} (h:Ea L M i):Dc L i=Dc M i:=by
 unfold Dc;rw[h.same i (Nat.le_refl _),h.bad,h.bad]
theorem Ea.kind {L M:List Tok} {i:Nat} (h:Ea L M i):Ao L i=Ao M i:=by
 unfold Ao;rw[show(fun k=>decide (2≤k)&&YthfkpalfopdmhaaGreatDoor.isB L i (CO.getD k []))=(fun k=>decide (2≤k)&&YthfkpalfopdmhaaGreatDoor.isB M i (CO.getD k []))from funext fun k=>by rw[h.isB]]
theorem B9 {α β:Type} {L:List Tok} {i:Nat} {r r':RS α} {k k':α→Nat→RS β} (ha:Ec L i r) (h:r=r') (hk:∀a j,i≤j→k a j=k' a j):r.bind k=r'.bind k':=by
 subst h;cases r with
 |ok a j=>exact hk a j (Nat.le_of_lt ha.1)
 |bad e p=>rfl
theorem BJ {α β:Type} {o o':Option (RS α)} {k k':α→Nat→Option (RS β)} (h:o=o') (hk:∀a j,o=some (.ok a j)→k a j=k' a j):RS.obind o k=RS.obind o' k':=by
 subst h;rcases o with _|⟨a,j⟩|⟨e,p⟩
 ·rfl
 ·exact hk a j rfl
 ·rfl
theorem Ea.plain {L M:List Tok} {i:Nat} (h:Ea L M i) (k:Nat) (pl:Int):DC L k pl i=DC M k pl i:=by
 unfold DC
 repeat' split
 ·exact B9 (Aq L i) h.name fun r j hj=>B9 (Ae L j _) ((h.on hj).must _) fun _ j2 hj2=>B9 (BQ L j2) (h.on (Nat.le_trans hj hj2)).exprP fun _ _ _=>rfl
 ·exact B9 (Aq L i) h.name fun r j hj=>B9 (Ae L j _) ((h.on hj).must _) fun _ j2 hj2=>B9 (Aq L j2) (h.on (Nat.le_trans hj hj2)).name fun _ _ _=>rfl
 ·exact B9 (Aq L i) h.name fun r j hj=>B9 (Ae L j _) ((h.on hj).must _) fun _ j2 hj2=>B9 (BQ L j2) (h.on (Nat.le_trans hj hj2)).exprP fun _ _ _=>rfl
 ·exact B9 (Aq L i) h.name fun r j hj=>B9 (Ae L j _) ((h.on hj).must _) fun _ j2 hj2=>B9 (Aq L j2) (h.on (Nat.le_trans hj hj2)).name fun _ j3 hj3=>
   B9 (Ae L j3 _) ((h.on (by omega)).must _) fun _ j4 hj4=>B9 (BQ L j4) (h.on (by omega)).exprP fun _ j5 hj5=>B9 (Ae L j5 _) ((h.on (by omega)).must _) fun _ j6 hj6=>B9 (BQ L j6) (h.on (by omega)).exprP fun _ _ _=>rfl
 ·exact B9 (Aq L i) h.name fun _ _ _=>rfl
 ·exact B9 (BQ L i) h.exprP fun _ _ _=>rfl
 ·exact B9 (I5 L i) h.times fun _ _ _=>rfl
 ·rfl
def TS (L M:List Tok) (i:Nat) (f:Nat):Prop:=∀k d l,i≤k→k≤L.length→Ci L f k d l=Ci M f k d l
theorem Ro {L M:List Tok} {i f:Nat} (h:Ea L M i) (hr:TS L M i f) {k d l:Nat} (hk:i≤k):Bz (Ci L f) L k d l=Bz (Ci M f) M k d l:=by
 unfold Bz;rw[(h.on hk).isB,(h.on hk).bad];split
 ·rfl
 ·refine BJ (by rw[(h.on hk).must]) fun _ j hj=>?_
  have a:=Ae L k [123];rw[Option.some.inj hj]at a;have a1:=a.1;refine BJ (hr _ _ _ (by omega) a.2) fun b j2 hj2=>?_
  have a2:=FP L f _ _ _ _ a.2 hj2;have a3:=a2.1;exact BJ (by rw[(h.on (show i≤j2 by omega)).must]) fun _ _ _=>rfl
theorem QBU {L M:List Tok} {i f:Nat} (h:Ea L M i) (hr:TS L M i f) {q k d l:Nat} (hk:i≤k):Df (Ci L f) L q k d l=Df (Ci M f) M q k d l:=by
 unfold Df;rw[(h.on hk).isB,Ro h hr (by omega)]
theorem QDY {L M:List Tok} {i f:Nat} (h:Ea L M i) (hr:TS L M i f) {k d l:Nat} (hk:i≤k):GO (Ci L f) L k d l=GO (Ci M f) M k d l:=by
 unfold GO;rw[←(h.on hk).kind,(h.on hk).bad,(h.on hk).place,(h.on (show i≤(if Ao L k=1 then k else k+1) by split<;>omega)).plain];split
 ·rfl
 ·refine BJ rfl fun s j hj=>?_
  have a:=G8 L k;unfold Dz at a;rw[(h.on hk).place,(h.on (show i≤(if Ao L k=1 then k else k+1) by split<;>omega)).plain,Option.some.inj hj]at a;have a1:=a.1;split
  ·exact BJ (by rw[(h.on (show i≤j by omega)).must]) fun _ _ _=>rfl
  ·refine BJ (Ro h hr (by omega)) fun b j2 hj2=>?_
   have a2:=Hj (FP L f) hj2;have a3:=a2.1;exact BJ (QBU h hr (by omega)) fun _ _ _=>rfl
theorem QDZ {L M:List Tok} {i:Nat} (h:Ea L M i):∀f,TS L M i f:=by
 intro f
 induction f with
 |zero=>intro k d l _ _;rfl
 |succ f ih=>
  intro k d l hk hl;rw[DI,DI,(h.on hk).isB];split
  ·rfl
  ·refine BJ (QDY h ih hk) fun o j hj=>?_
   have a:=Ja (FP L f) hj;have a1:=a.1;exact BJ (ih _ _ _ (by omega) a.2) fun _ _ _=>rfl
theorem QO {L M:List Tok} {i:Nat} (h:Ea L M i) (hi:i≤L.length) {f o:Nat} {p:Int} (hp:AT L o=p):Fo L f i o=RS.obind (Ci M f i 0 0) fun b j=>RS.obind (some (Bg M j [125])) fun _ k=>if 40<b.count then some (.bad 2 p)else some (.ok b.flat k):=by
 unfold Fo;refine BJ (QDZ h f _ _ _ (Nat.le_refl _) hi) fun b j hj=>?_
 have a:=FP L f _ _ _ _ hi hj;have a1:=a.1;refine BJ (by rw[(h.on a1).must]) fun _ k _=>?_
 rw[hp]
theorem TT (L:List Tok) (i:Nat):E5 L i=QAv L i (Fe L i 0 0):=by
 unfold E5;rw[if_neg (by omega),Int.toNat_natCast]
theorem Xq {L:List Tok} {i:Nat} {er p:Int} (h:Fe L i 0 0=.bad er p):E5 L i=⟨[],0,er,p⟩:=by rw[TT,h];rfl
theorem QDa {L:List Tok} {i:Nat} {t:Bk} {j:Nat} (h:Fe L i 0 0=.ok t j) (hc:40<t.count):E5 L i=⟨[],0,2,AT L i⟩:=by rw[TT,h];show(if 40<t.count then _ else _)=_;rw[if_pos hc]
theorem QEx {L:List Tok} {i:Nat} {t:Bk} {j:Nat} (h:Fe L i 0 0=.ok t j) (hc:¬40<t.count):E5 L i=⟨t.flat,j,0,0⟩:=by rw[TT,h];show(if 40<t.count then _ else _)=_;rw[if_neg hc]
theorem LW {L M:List Tok} {k o f:Nat} (h:Ea L M (k+1)) (hb:isB M k [123]=true) (hp:AT M k=AT L o) {r:RS (List Stm)} (hr:Fo L f (k+1) o=some r):
  (∃b m,r=.ok b m∧E5 M k=⟨b,m,0,0⟩)∨(∃e p,r=.bad e p∧e≠0∧E5 M k=⟨[],0,e,p⟩):=by
 have hkM:=Bt hb;have hkL:k+1≤L.length:=by rw[h.len];omega
 have hne:=G0 hkL hr;rw[QO h hkL rfl]at hr;have hm:Bg M k [123]=.ok () (k+1):=by unfold Bg;rw[if_pos hb]
 have hblk:Bz (Ci M f) M k 0 0=RS.obind (Ci M f (k+1) 0 0) fun b j=>RS.obind (some (Bg M j [125])) fun _ j=>some (.ok b j):=by
  unfold Bz;rw[if_neg (by omega),hm];rfl
 rcases RS.obind_some hr with⟨b,j,h1,h2⟩|⟨e,p,h1,rfl⟩
 ·rcases RS.obind_some h2 with⟨_,m,h3,h4⟩|⟨e,p,h3,rfl⟩
  ·have hB:Fe M k 0 0=.ok b m:=Nw (f:=f) (by rw[hblk,h1,RS.obind_ok,h3];rfl);split at h4
   ·rename_i hc
    obtain rfl:=Option.some.inj h4;exact .inr ⟨2,_,rfl,by decide,by rw[QDa hB hc,hp]⟩
   ·rename_i hc
    obtain rfl:=Option.some.inj h4;exact .inl ⟨_,m,rfl,QEx hB hc⟩
  ·have hB:Fe M k 0 0=.bad e p:=Nw (f:=f) (by rw[hblk,h1,RS.obind_ok,h3];rfl);exact .inr ⟨e,p,rfl,hne,Xq hB⟩
 ·have hB:Fe M k 0 0=.bad e p:=Nw (f:=f) (by rw[hblk,h1];rfl);exact .inr ⟨e,p,rfl,hne,Xq hB⟩
end Go.Proofs.YthfkpalfopdmhaaGreatDoor
namespace Go.Proofs.YthfkpalfopdmhaaGreatDoor
open Go
section
variable {L M:List Tok} {i:Nat}
theorem Ea.numAt (h:Ea L M i):numAt L i=numAt M i:=by
 unfold YthfkpalfopdmhaaGreatDoor.numAt;rw[h.same i (Nat.le_refl _)]
theorem Ea.cel (h:Ea L M i) (num:Bool):Fj num L i=Fj num M i:=by
 unfold Fj;refine B9 (Aq L i) h.name fun s j hj=>?_
 rw[(h.on hj).isB,(h.on (show i≤j+1 by omega)).numAt,(h.on (show i≤j+1 by omega)).bad,h.place]
theorem Ea.cels (h:Ea L M i) (num:Bool):∀f k,i≤k→Bc num L f k=Bc num M f k:=by
 intro f
 induction f with
 |zero=>intro k _;rfl
 |succ f ih=>
  intro k hk;unfold Bc;refine BJ (by rw[(h.on hk).cel]) fun c j hj=>?_
  have a:=Gz num L k;rw[Option.some.inj hj]at a;have a1:=a.1;rw[(h.on (show i≤j by omega)).isB];split
  ·exact BJ (ih _ (by omega)) fun _ _ _=>rfl
  ·exact BJ (by rw[(h.on (show i≤j by omega)).must]) fun _ _ _=>rfl
theorem Ea.claim (h:Ea L M i) (pl:Int):E8 L i pl=E8 M i pl:=by
 unfold E8;exact B9 (BQ L i) h.exprP fun e j hj=>B9 (Ae L j _) ((h.on hj).must _) fun _ _ _=>rfl
theorem Ea.rest (h:Ea L M i) {o f:Nat} (hi:i≤L.length) (ho:AT L o=AT M o):Fo L f i o=Fo M f i o:=by
 rw[QO h hi rfl,QO (L:=M) (M:=M) (Ea.refl M i) (by rw[←h.len];exact hi) rfl,ho]
theorem Ea.regs (h:Ea L M i) (f:Nat):GM L f i=GM M f i:=by
 unfold GM;rw[h.isB,h.cels false f (i+1) (by omega)]
theorem Ea.thr (h:Ea L M i) (f:Nat) (name:List UInt8) (pl:Int):IJ L f i name pl=IJ M f i name pl:=by
 unfold IJ;refine BJ (by rw[h.must]) fun _ j hj=>?_
 have a:=Ae L i [123];rw[Option.some.inj hj]at a;have a1:=a.1;refine BJ ((h.on (show i≤j by omega)).regs f) fun rs k hk=>?_
 have a2:=Iw a.2 hk;have a3:=a2.1;exact BJ ((h.on (show i≤k by omega)).rest a2.2 h.place) fun _ _ _=>rfl
theorem Ea.thread (h:Ea L M i) (f:Nat):DT L f i=DT M f i:=by
 have hpl:AT L ((i:Int)+1)=AT M ((i:Int)+1):=by simpa using(h.on (show i≤i+1 by omega)).place
 unfold DT;rw[hpl];refine BJ (by rw[(h.on (show i≤i+1 by omega)).name]) fun s j hj=>?_
 have a:=Aq L (i+1);rw[Option.some.inj hj]at a;have a1:=a.1;exact(h.on (show i≤j by omega)).thr f s _
theorem Rq {α:Type} {F:Nat} {kw:List UInt8} {p q:Nat→Option (RS α)} (h:Ea L M i) (hp:OD L F kw p) (hpq:∀k,i≤k→p k=q k):∀f k,i≤k→Bj L kw p f k=Bj M kw q f k:=by
 intro f
 induction f with
 |zero=>intro k _;rfl
 |succ f ih=>
  intro k hk;unfold Bj;rw[(h.on hk).isB];split
  ·rename_i hb
   rw[←(h.on hk).isB]at hb;refine BJ (hpq k hk) fun a j hj=>?_
   have a:=hp.ahead _ _ hb hj;have a1:=a.1;exact BJ (ih _ (by omega)) fun _ _ _=>rfl
  ·rfl
theorem Ea.recs (h:Ea L M i) (f:Nat):KP L f i=KP M f i:=by
 unfold KP;rw[h.isB,h.place];split
 ·exact BJ ((h.on (show i≤i+1 by omega)).thr f _ _) fun _ _ _=>rfl
 ·rfl
end
def QBV (L:List Tok) (F i:Nat):Option (RS (List Cel)):=Bc true L F (i+1)
def QEy (L:List Tok) (F i:Nat):Option (RS (List Cel)):=Bc false L F (i+1)
def Wq (L:List Tok) (i:Nat):Option (RS Clm):=some (E8 L (i+1) (AT L i))
def fut5 (L:List Tok) (f i:Nat) (p:Prg):Option (RS Prg):=RS.obind (Bj L CG (Wq L) f i) fun cs j=>some (L9 L j {p with claims:=p.claims++cs})
def fut4 (L:List Tok) (F i:Nat) (p:Prg):Option (RS Prg):=RS.obind (KP L F i) fun rs j=>fut5 L F j {p with recs:=p.recs++rs}
def fut3 (L:List Tok) (F f i:Nat) (p:Prg):Option (RS Prg):=RS.obind (Bj L DJ (DT L F) f i) fun ts j=>fut4 L F j {p with threads:=p.threads++ts}
def TU (L:List Tok) (F f i:Nat) (p:Prg):Option (RS Prg):=RS.obind (Bj L Eo (QEy L F) f i) fun ks j=>fut3 L F F j {p with locks:=p.locks++ks.flatten}
def TV (L:List Tok) (F f i:Nat) (p:Prg):Option (RS Prg):=RS.obind (Bj L I2 (QBV L F) f i) fun vs j=>TU L F F j {p with vols:=p.vols++vs.flatten}
def VF (L:List Tok) (F f i:Nat) (p:Prg):Option (RS Prg):=RS.obind (Bj L FX (QBV L F) f i) fun ls j=>TV L F F j {p with lines:=p.lines++ls}
theorem QDb (L:List Tok) (F:Nat):GX L F=VF L F F 0 noPg:=rfl
theorem Ix {α β:Type} {L:List Tok} {kw:List UInt8} {p:Nat→Option (RS α)} {f i:Nat} {K:List α→Nat→Option (RS β)} {r:RS β} (h:RS.obind (Bj L kw p f i) K=some r) (hb:isB L i kw=true):
  ∃f',f=f'+1∧((∃a j,p i=some (.ok a j)∧RS.obind (Bj L kw p f' j) (fun l k=>K (a::l) k)=some r)∨(∃e q,p i=some (.bad e q)∧r=.bad e q)):=by
 cases f with
 |zero=>simp[Bj]at h
 |succ f=>
  refine⟨f,rfl,?_⟩;unfold Bj at h;rw[if_pos hb]at h;rcases hp:p i with _|⟨a,j⟩|⟨e,q⟩
  ·rw[hp]at h;simp at h
  ·refine .inl ⟨a,j,rfl,?_⟩;rw[hp]at h;simp only[RS.obind_ok]at h;rcases hq:Bj L kw p f j with _|⟨l,k⟩|⟨e,q⟩
   ·rw[hq]at h;simp at h
   ·rw[hq]at h;simpa using h
   ·rw[hq]at h;simpa using h
  ·refine .inr ⟨e,q,rfl,?_⟩;rw[hp]at h;simpa using h.symm
theorem Iy {α β:Type} {L:List Tok} {kw:List UInt8} {p:Nat→Option (RS α)} {f i:Nat} {K:List α→Nat→Option (RS β)} {r:RS β} (h:RS.obind (Bj L kw p f i) K=some r) (hb:isB L i kw=false):K [] i=some r:=by
 cases f with
 |zero=>simp[Bj]at h
 |succ f=>
  unfold Bj at h;rw[if_neg (by rw[hb];simp)]at h;simpa using h
section
variable {L:List Tok} {F f i:Nat} {p:Prg} {r:RS Prg}
theorem ZX (h:VF L F f i p=some r) (hb:isB L i FX=true):∃f',f=f'+1∧((∃a j,Bc true L F (i+1)=some (.ok a j)∧VF L F f' j {p with lines:=p.lines++[a]}=some r)∨(∃e q,Bc true L F (i+1)=some (.bad e q)∧r=.bad e q)):=by
 obtain⟨f',hf,h1⟩:=Ix h hb;refine⟨f',hf,h1.imp (fun⟨a,j,h2,h3⟩=>⟨a,j,h2,?_⟩) id⟩;unfold VF;simpa using h3
theorem ZY (h:VF L F f i p=some r) (hb:isB L i FX=false):TV L F F i p=some r:=by have:=Iy h hb;simpa using this
theorem ZZ (h:TV L F f i p=some r) (hb:isB L i I2=true):∃f',f=f'+1∧((∃a j,Bc true L F (i+1)=some (.ok a j)∧TV L F f' j {p with vols:=p.vols++a}=some r)∨(∃e q,Bc true L F (i+1)=some (.bad e q)∧r=.bad e q)):=by
 obtain⟨f',hf,h1⟩:=Ix h hb;refine⟨f',hf,h1.imp (fun⟨a,j,h2,h3⟩=>⟨a,j,h2,?_⟩) id⟩;unfold TV;simpa using h3
theorem Za (h:TV L F f i p=some r) (hb:isB L i I2=false):TU L F F i p=some r:=by have:=Iy h hb;simpa using this
theorem Zb (h:TU L F f i p=some r) (hb:isB L i Eo=true):∃f',f=f'+1∧((∃a j,Bc false L F (i+1)=some (.ok a j)∧TU L F f' j {p with locks:=p.locks++a}=some r)∨(∃e q,Bc false L F (i+1)=some (.bad e q)∧r=.bad e q)):=by
 obtain⟨f',hf,h1⟩:=Ix h hb;refine⟨f',hf,h1.imp (fun⟨a,j,h2,h3⟩=>⟨a,j,h2,?_⟩) id⟩;unfold TU;simpa using h3
theorem Zc (h:TU L F f i p=some r) (hb:isB L i Eo=false):fut3 L F F i p=some r:=by have:=Iy h hb;simpa using this
theorem Zd (h:fut3 L F f i p=some r) (hb:isB L i DJ=true):∃f',f=f'+1∧((∃a j,DT L F i=some (.ok a j)∧fut3 L F f' j {p with threads:=p.threads++[a]}=some r)∨(∃e q,DT L F i=some (.bad e q)∧r=.bad e q)):=by
 obtain⟨f',hf,h1⟩:=Ix h hb;refine⟨f',hf,h1.imp (fun⟨a,j,h2,h3⟩=>⟨a,j,h2,?_⟩) id⟩;unfold fut3;simpa using h3
theorem Ze (h:fut3 L F f i p=some r) (hb:isB L i DJ=false):fut4 L F i p=some r:=by have:=Iy h hb;simpa using this
theorem Zf (h:fut4 L F i p=some r) (hb:isB L i BU=true):(∃a j,IJ L F (i+1) [] (AT L i)=some (.ok a j)∧fut5 L F j {p with recs:=p.recs++[a]}=some r)∨(∃e q,IJ L F (i+1) [] (AT L i)=some (.bad e q)∧r=.bad e q):=by
 unfold fut4 KP at h;rw[if_pos hb]at h;rcases hp:IJ L F (i+1) [] (AT L i)with _|⟨a,j⟩|⟨e,q⟩
 ·rw[hp]at h;simp at h
 ·rw[hp]at h;exact .inl ⟨a,j,rfl,by simpa using h⟩
 ·rw[hp]at h;exact .inr ⟨e,q,rfl,by simpa using h.symm⟩
theorem Zg (h:fut4 L F i p=some r) (hb:isB L i BU=false):fut5 L F i p=some r:=by
 unfold fut4 KP at h;rw[if_neg (by rw[hb];simp)]at h;simpa using h
theorem Zh (h:fut5 L f i p=some r) (hb:isB L i CG=true):∃f',f=f'+1∧((∃a j,E8 L (i+1) (AT L i)=.ok a j∧fut5 L f' j {p with claims:=p.claims++[a]}=some r)∨(∃e q,E8 L (i+1) (AT L i)=.bad e q∧r=.bad e q)):=by
 obtain⟨f',hf,h1⟩:=Ix h hb;refine⟨f',hf,h1.imp (fun⟨a,j,h2,h3⟩=>⟨a,j,Option.some.inj h2,?_⟩) (fun⟨e,q,h2,h3⟩=>⟨e,q,Option.some.inj h2,h3⟩)⟩;unfold fut5;simpa using h3
theorem Rr (h:fut5 L f i p=some r) (hb:isB L i CG=false):L9 L i p=r:=by have:=Iy h hb;simpa using this
theorem QBW (h:fut5 L f i p=some r) (hb:isB L i BU=true):r=badR L i 5:=by
 have hi:=Bt hb;have h2:=Rr h (by
  cases hq:isB L i CG with
  |false=>rfl
  |true=>
   unfold isB at hb hq;rw[Int.toNat_natCast,List.getElem?_eq_getElem hi]at hb hq;simp at hb hq;rw[hb.2]at hq;exact absurd hq.2 (by decide))
 rw[←h2];unfold L9;rw[if_pos hi]
end
section
variable {L M:List Tok} {F f i:Nat} {p:Prg}
theorem Ea.fut5 (h:Ea L M i):fut5 L f i p=fut5 M f i p:=by
 unfold YthfkpalfopdmhaaGreatDoor.fut5;refine BJ (Rq (F:=f) (q:=Wq M) h (FG L f) (fun k hk=>?_) f i (Nat.le_refl _)) fun cs j hj=>?_
 ·unfold Wq;rw[(h.on hk).place,(h.on (show i≤k+1 by omega)).claim]
 ·rcases Nat.lt_or_ge i (L.length+1)with hi|hi
  ·have a:=BD (FG L f) f i _ (by omega) hj;have a1:=a.1;unfold L9;rw[h.len,(h.on a1).bad]
  ·cases f with
   |zero=>simp[Bj]at hj
   |succ f=>
    unfold Bj at hj;rw[if_neg (by intro hb;have:=Bt hb;omega)]at hj;obtain⟨-,rfl⟩:[]=cs∧i=j:=by simpa using hj
    unfold L9;rw[h.len,h.bad]
theorem Ea.fut4 (h:Ea L M i) (hi:i≤L.length):fut4 L F i p=fut4 M F i p:=by
 unfold YthfkpalfopdmhaaGreatDoor.fut4;refine BJ (h.recs F) fun rs j hj=>?_
 have a:=Jk hi hj;exact(h.on a.1).fut5
theorem Ea.fut3 (h:Ea L M i) (hi:i≤L.length):fut3 L F f i p=fut3 M F f i p:=by
 unfold YthfkpalfopdmhaaGreatDoor.fut3;refine BJ (Rq (F:=F) h (D8 L F) (fun k hk=>(h.on hk).thread F) f i (Nat.le_refl _)) fun ts j hj=>?_
 have a:=BD (D8 L F) f i _ hi hj;exact(h.on a.1).fut4 a.2
end
end Go.Proofs.YthfkpalfopdmhaaGreatDoor
namespace Go.Proofs.YthfkpalfopdmhaaGreatDoor
open Go
theorem Xy (x:Ex) (h:x.ok):(E0 x).ok:=by
 induction x with
 |leaf a=>exact h
 |un a x ih=>exact⟨h.1,ih h.2⟩
 |bin a x y h1 h2=>exact⟨h.1,h1 h.2.1,h2 h.2.2⟩
theorem QBx {a:Nod} (h:CN a=true):CN (bareN a)=true:=by
 obtain⟨a1,a2,a3,a4⟩:=a;unfold CN at h⊢;simp only[Bool.and_eq_true]at h;simp only[bareN,Bool.and_eq_true];exact⟨⟨rfl,rfl⟩,h.2⟩
theorem JD {L:List Nod} (h:BZ L=true):BZ (L.map bareN)=true:=by
 obtain⟨x,_,ho,rfl,h1,h2,h3⟩:=Jw h;rw[←GK,PH (Xy x ho),IU,IT,GK];rw[B7]at h1;simp only[Bool.and_eq_true,decide_eq_true_eq,List.all_map,List.all_eq_true,Function.comp]at h2⊢;exact⟨⟨h1,fun a ha=>QBx (h2 a ha)⟩,h3⟩
theorem Zt {s:Stm} (h:Dy s=true):Dy (bareS s)=true:=by
 obtain⟨x1,x2,x3,x4,x5,x6,x7,x8,x9⟩:=s;simp only[bareS];unfold Dy at h⊢;simp only[Bool.and_eq_true]at h⊢;obtain⟨⟨⟨⟨⟨⟨⟨⟨a1,a2⟩,a3⟩,a4⟩,a5⟩,a6⟩,a7⟩,a8⟩,a9⟩:=h;refine⟨⟨⟨⟨⟨⟨⟨⟨a1,a2⟩,rfl⟩,rfl⟩,a5⟩,a6⟩,?_⟩,?_⟩,a9⟩
 ·split at a7
  ·rename_i hc;rw[if_pos hc];exact JD a7
  ·rename_i hc;rw[if_neg hc];simpa using a7
 ·split at a8
  ·rename_i hc;rw[if_pos hc];exact JD a8
  ·rename_i hc;rw[if_neg hc];simpa using a8
theorem Ry {b:Bk} (h:b.fit):(FW b).fit:=by
 induction b with
 |nil=>trivial
 |cons s b e r h1 h2 h3=>
  obtain⟨a1,a2,a3,a4,a5,a6,a7⟩:=h;refine⟨?_,?_,?_,?_,h1 a5,h2 a6,h3 a7⟩
  ·rw[EU];exact a1
  ·rw[EU];exact a2
  ·rw[EU];exact a3
  ·rw[EU];exact a4
theorem Zu (b:Bk):∀l,(FW b).brk l=b.brk l:=by
 induction b with
 |nil=>intro l;rfl
 |cons s b e r h1 h2 h3=>
  intro l;simp only[FW,Bk.brk,h1,h2,h3];rfl
theorem VL {L:List Stm} (h:CH L=true):CH (L.map bareS)=true:=by
 obtain⟨b,rfl,⟨hf,hg⟩,h1,h2,h3,_⟩:=DX h;rw[←Iq];refine OP ⟨Ry hf,?_⟩ (by rw[EU];exact h1) (by rw[Zu];exact h2) (by rw[Wc];exact h3);rw[Iq];simp only[List.all_map,List.all_eq_true,Function.comp]at hg⊢;exact fun s hs=>Zt (hg s hs)
theorem Qd {m:Int} {c:Cel} (h:Aw m c=true):Aw m (bareCel c)=true:=by
 unfold Aw at h⊢;simp only[Bool.and_eq_true]at h;simp only[bareCel,Bool.and_eq_true];exact⟨h.1,rfl⟩
theorem VM {b:Bool} {t:Thr} (h:Bh b t=true):Bh b (Br t)=true:=by
 unfold Bh at h⊢;simp only[Bool.and_eq_true]at h;simp only[Br,Bool.and_eq_true];exact⟨⟨⟨h.1.1.1,rfl⟩,VL h.1.2⟩,h.2⟩
theorem QBy {c:Clm} (h:Ef c=true):Ef (DR c)=true:=by
 unfold Ef at h⊢;simp only[Bool.and_eq_true]at h;simp only[DR,Bool.and_eq_true];exact⟨rfl,JD h.2⟩
theorem Iz {α:Type} {q:α→Bool} {g:α→α} (h:∀a,q a=true→q (g a)=true) {l:List α} (hl:l.all q=true):(l.map g).all q=true:=by
 simp only[List.all_map,List.all_eq_true,Function.comp]at hl⊢;exact fun a ha=>h a (hl a ha)
theorem Zv {l:List Cel} (h:EC l=true):EC (l.map bareCel)=true:=by
 unfold EC at h⊢;simp only[Bool.and_eq_true]at h⊢;exact⟨by simpa using h.1,Iz (q:=Aw most32) (fun _=>Qd) h.2⟩
theorem XA {p:Prg} (h:BP p=true):BP (Cm p)=true:=by
 unfold BP at h⊢;simp only[Bool.and_eq_true]at h;simp only[Cm,Bool.and_eq_true];obtain⟨⟨⟨⟨⟨⟨a1,a2⟩,a3⟩,a4⟩,a5⟩,a6⟩,a7⟩:=h;exact⟨⟨⟨⟨⟨⟨Iz (q:=EC) (fun _=>Zv) a1,Iz (q:=Ef) (fun _=>QBy) a2⟩,Iz (q:=Aw most32) (fun _=>Qd) a3⟩,Iz (q:=Aw 0) (fun _=>Qd) a4⟩,Iz (q:=Bh true) (fun _=>VM) a5⟩,Iz (q:=Bh false) (fun _=>VM) a6⟩,by simpa using a7⟩
theorem XB (x:Ex):∀b,AZ b (E0 x)=AZ b x:=by
 induction x with
 |leaf a=>intro b;rfl
 |un a x h=>intro b;simp only[E0,AZ,h];rfl
 |bin a x y h1 h2=>intro b;simp only[E0,AZ,h1,h2];rfl
theorem LA {L:List Nod} (h:BZ L=true):Bi (L.map bareN)=Bi L:=by
 have h2:=JD h;obtain⟨x,hw,ho,rfl,_⟩:=Jw h;unfold Bi;rw[←GK]at h2⊢;rw[Ic (Xy x ho),hw];simp only;rw[if_pos h2,if_pos h,XB]
theorem XC {s:Stm} (h:Dy s=true):I4 (bareS s)=I4 s:=by
 obtain⟨k,hk,h1,h2⟩:=Hk h;obtain⟨_,_,_,_,_,he,hf,_⟩:=J5 hk h;obtain⟨xk,xr,xn,xe,xf,xm,xb,xl,xp⟩:=s;simp only at hk he hf;have e1:Bi (xe.map bareN)=Bi xe:=by
  split at he
  ·exact LA he
  ·rw[List.isEmpty_iff.1 he];rfl
 have e2:Bi (xf.map bareN)=Bi xf:=by
  split at hf
  ·exact LA hf
  ·rw[List.isEmpty_iff.1 hf];rfl
 show I4 ⟨xk,xr,xn,xe.map bareN,xf.map bareN,xm,xb,xl,0⟩=I4 ⟨xk,xr,xn,xe,xf,xm,xb,xl,xp⟩;unfold I4;simp only[e1,e2]
theorem VN (b:Bk):∀ind,b.flat.all Dy=true→Bw ind (FW b)=Bw ind b:=by
 induction b with
 |nil=>intro ind _;rfl
 |cons s b e r h1 h2 h3=>
  intro ind h;simp only[Bk.flat,List.all_cons,List.all_append,Bool.and_eq_true]at h;obtain⟨a1,a2,a3,a4⟩:=h;simp only[FW,Bw,XC a1,h1 _ a2,h2 _ a3,h3 _ a4,EU];rfl
theorem XD {L:List Stm} (h:CH L=true):bodyT (L.map bareS)=bodyT L:=by
 obtain⟨b,rfl,⟨hf,hg⟩,_⟩:=DX h;unfold bodyT;rw[←Iq,Ig (Ry hf),Ig hf];exact VN b _ hg
theorem Qe:∀l:List Cel,Jd (l.map bareCel)=Jd l
 |[]=>rfl
 |[_]=>rfl
 |c::d::l=>by
  have:=Qe (d::l);rw[List.map_cons]at this;simp only[List.map_cons,Jd,this];rfl
theorem Rz (w:List UInt8) (l:List Cel):rowT w (l.map bareCel)=rowT w l:=by unfold rowT;rw[Qe]
theorem XE (w:List UInt8) (l:List Cel):KN w (l.map bareCel)=KN w l:=by
 unfold KN;rw[Rz];cases l<;>rfl
theorem NR {b:Bool} {t:Thr} (h:Bh b t=true) (head:List UInt8):Bf head (Br t)=Bf head t:=by
 unfold Bf;simp only[Br,XD (IY h).2.2.2.1]
theorem NS {α:Type} {g:α→α} {f:α→List UInt8} {l:List α} (h:∀a∈l,f (g a)=f a):(l.map g).flatMap f=l.flatMap f:=by
 induction l with
 |nil=>rfl
 |cons a l ih=>simp only[List.map_cons,List.flatMap_cons,h a (by simp),ih fun a ha=>h a (by simp[ha])]
theorem R7 {p:Prg} (h:BP p=true):Gv (Cm p)=Gv p:=by
 obtain⟨h1,h2,h3,h4,h5,h6,_⟩:=Kz h;rw[List.all_eq_true]at h2 h5 h6;unfold Gv;simp only[Cm,XE];have e1:(p.lines.map (·.map bareCel)).flatMap (rowT FX)=p.lines.flatMap (rowT FX):=NS (g:=fun l:List Cel=>l.map bareCel) fun l _=>Rz _ l
 have e2:(p.threads.map Br).flatMap threadT=p.threads.flatMap threadT:=NS fun t ht=>NR (h5 t ht) _
 have e3:(p.recs.map Br).flatMap (Bf BU)=p.recs.flatMap (Bf BU):=NS fun t ht=>NR (h6 t ht) _
 have e4:(p.claims.map DR).flatMap claimT=p.claims.flatMap claimT:=NS fun c hc=>by
  have:=h2 c hc;unfold Ef at this;rw[Bool.and_eq_true]at this;unfold claimT DR;simp only[LA this.2]
 rw[e1,e2,e3,e4]
theorem OG {p:Prg} (h:BP p=true):Ek p=Gv p:=by unfold Ek;rw[if_pos h]
theorem Zw {p q:Prg} (hp:BP p=true) (hq:BP q=true) (h:Cm q=Cm p):Ek q=Ek p:=by
 rw[OG hp,OG hq,←R7 hq,h,R7 hp]
end Go.Proofs.YthfkpalfopdmhaaGreatDoor

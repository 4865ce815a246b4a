/- Texts of the walk, packed. -/
import Derived.Laws.IdiomStrings
import Derived.Test.YthfkpalfopdmhaaGreatDoorW12
import Derived.Test.YthfkpalfopdmhaaGreatDoorW13
import Derived.Test.YthfkpalfopdmhaaGreatDoorW14
import Derived.Test.YthfkpalfopdmhaaGreatDoorW15
import Derived.Test.YthfkpalfopdmhaaGreatDoorW16
import Derived.Test.YthfkpalfopdmhaaGreatDoorW38
import Derived.Test.YthfkpalfopdmhaaGreatDoorW40
import Derived.Test.YthfkpalfopdmhaaGreatDoorW41
import Derived.Test.YthfkpalfopdmhaaGreatDoorW47
import Derived.Test.YthfkpalfopdmhaaGreatDoorW48
import Derived.Test.YthfkpalfopdmhaaGreatDoorW49
import Derived.Test.YthfkpalfopdmhaaGreatDoorW00
namespace Go.Proofs.YthfkpalfopdmhaaGreatDoor
open Go.RowKit
section
variable {α:Type} {q:α->α->Bool}
theorem Io (hq:∀a,q a a=true):∀L:List α,Ae q L L=true
 |[]=>rfl
 |a::l=>by unfold Ae;rw[hq,Io hq l];rfl
end
end Go.Proofs.YthfkpalfopdmhaaGreatDoor
namespace Go.Proofs.YthfkpalfopdmhaaGreatDoor
open Go
theorem eq_bare {a b:Nod} (h:bareN a=bareN b):En false a b=true:=by
 have h1:a.op=b.op:=show(bareN a).op=(bareN b).op from by rw[h]
 have h2:a.n=b.n:=show(bareN a).n=(bareN b).n from by rw[h]
 have h3:a.name=b.name:=show(bareN a).name=(bareN b).name from by rw[h]
 simp[En,h1,h2,h3]
theorem Ne:∀{L M:List Nod},L.map bareN=M.map bareN->E9 false L M=true
 |[],[],_=>rfl
 |[],b::m,h=>by simp at h
 |a::l,[],h=>by simp at h
 |a::l,b::m,h=>by
  simp only[List.map_cons,List.cons.injEq]at h;have ih:=Ne h.2;unfold E9 at *;unfold Ae;rw[eq_bare h.1,ih];rfl
theorem QHj {a b:Stm} (h:bareS a=bareS b):DT false a b=true:=by
 obtain⟨a1,a2,a3,a4,a5,a6,a7,a8,a9⟩:=a;obtain⟨b1,b2,b3,b4,b5,b6,b7,b8,b9⟩:=b;simp only[bareS,Stm.mk.injEq]at h;obtain⟨rfl,rfl,rfl,h4,h5,rfl,rfl,rfl,_⟩:=h;simp[DT,Ne h4,Ne h5]
theorem QHk:∀{L M:List Stm},L.map bareS=M.map bareS->MG false L M=true
 |[],[],_=>rfl
 |[],b::m,h=>by simp at h
 |a::l,[],h=>by simp at h
 |a::l,b::m,h=>by
  simp only[List.map_cons,List.cons.injEq]at h;have ih:=QHk h.2;unfold MG at *;unfold Ae;rw[QHj h.1,ih];rfl
theorem QHl {p:Prg} (h:BH p=true):∃T,T.map Tok.bare=Hy p/\AV (JJ p) 0=.fine T:=by
 obtain⟨T,h1,h2⟩:=UI h [] 0;refine⟨T,h1,?_⟩;unfold JJ;rw[if_pos h];rw[List.append_nil,LS,Kt,List.append_nil]at h2;exact h2
theorem QHm {p:Prg} (h:BH p=true) (hl:(JJ p).length<=4000):∃p',EN (JJ p)=⟨p',0,0⟩/\Dv p'=Dv p:=by
 obtain⟨T,h1,h2⟩:=QHl h;obtain⟨p',j,h3,h4⟩:=QAN h h1;refine⟨p',?_,h4⟩;unfold EN;rw[if_neg (by omega),h2];show(if(0:Int)=0 then O8 ((I8 T (T.length+1)).getD (.bad 0 0))else _)=_;rw[if_pos rfl,h3];rfl
theorem QIE:∀{l m:List Cel},l.map bareCel=m.map bareCel->Ae (CG false) l m=true
 |[],[],_=>rfl
 |[],b::m,h=>by cases h
 |a::l,[],h=>by cases h
 |a::l,b::m,h=>by
  simp only[List.map_cons,List.cons.injEq]at h;unfold Ae;rw[QIE h.2,Bool.and_true];have:=h.1;obtain⟨a1,a2,a3⟩:=a;obtain⟨b1,b2,b3⟩:=b;simp only[bareCel,Cel.mk.injEq]at this;simp[CG,this.1,this.2.1]
theorem QIF {α β:Type} {q:α->α->Bool} {g:α->β} (h:∀a b,g a=g b->q a b=true):∀{l m:List α},l.map g=m.map g->Ae q l m=true
 |[],[],_=>rfl
 |[],b::m,h=>by cases h
 |a::l,[],h=>by cases h
 |a::l,b::m,e=>by
  simp only[List.map_cons,List.cons.injEq]at e;unfold Ae;rw[h a b e.1,QIF h e.2];rfl
theorem QIG {a b:Thr} (h:CJ a=CJ b):CH false a b=true:=by
 obtain⟨a1,a2,a3,a4⟩:=a;obtain⟨b1,b2,b3,b4⟩:=b;simp only[CJ,Thr.mk.injEq]at h;obtain⟨h1,h2,h3,_⟩:=h;subst h1 h2;have h4:Ot a2 a2=true:=Io (fun a=>by simp) a2;simp[CH,h4,QHk h3]
theorem QIH {l m:List Nod} (h:l.map bareN=m.map bareN):E9 false l m=true:=by
 refine QIF (g:=bareN) (fun a b e=>?_) h;obtain⟨a1,a2,a3,a4⟩:=a;obtain⟨b1,b2,b3,b4⟩:=b;simp only[bareN,Nod.mk.injEq]at e;simp[En,e]
theorem QII {a b:Clm} (h:EU a=EU b):GT false a b=true:=by
 obtain⟨a1,a2⟩:=a;obtain⟨b1,b2⟩:=b;simp only[EU,Clm.mk.injEq,and_true]at h;simp[GT,QIH h]
theorem QIJ {p q:Prg} (h:Dv p=Dv q):KL false p q=true:=by
 unfold Dv at h;simp only[Prg.mk.injEq]at h;obtain⟨h1,h2,h3,h4,h5,h6⟩:=h;unfold KL;have e1:Ae (Ae (CG false)) p.lines q.lines=true:=QIF (q:=Ae (CG false)) (fun a b e=>QIE e) h1;have e4:Ae (CH false) p.threads q.threads=true:=QIF (q:=CH false) (fun a b e=>QIG e) h4;have e5:Ae (CH false) p.recs q.recs=true:=QIF (q:=CH false) (fun a b e=>QIG e) h5;have e6:Ae (GT false) p.claims q.claims=true:=QIF (q:=GT false) (fun a b e=>QII e) h6;rw[e1,QIE h2,QIE h3,e4,e5,e6];rfl
theorem QIK (p:Prg) (c:Clm):BQ (Nn p c)=BQ p++KJ c:=by simp[BQ,Nn]
theorem QIL (x:Ex):∀b,AU b (GF x)=AU b x:=by
 induction x with
 |leaf a=>intro b;rfl
 |un a x h=>intro b;simp only[GF,AU,h];rfl
 |bin a x y h1 h2=>intro b;simp only[GF,AU,h1,h2];rfl
theorem QIM {L:List Nod} (h:Bm L=true):CL (L.map bareN)=CL L:=by
 have h2:=LL h;obtain⟨x,hw,ho,rfl,_⟩:=MB h;unfold CL;rw[<-Gk]at h2⊢;rw[Jy (QEb x ho),hw];simp only;rw[if_pos h2,if_pos h,QIL]
theorem QIN {s:Stm} (h:EY s=true):NG (bareS s)=NG s:=by
 obtain⟨k,hk,h1,h2⟩:=Ij h;obtain⟨_,_,_,_,_,he,hf,_⟩:=La hk h;obtain⟨xk,xr,xn,xe,xf,xm,xb,xl,xp⟩:=s;simp only at hk he hf;have e1:CL (xe.map bareN)=CL xe:=by
  split at he
  ·exact QIM he
  ·rw[List.isEmpty_iff.1 he];rfl
 have e2:CL (xf.map bareN)=CL xf:=by
  split at hf
  ·exact QIM hf
  ·rw[List.isEmpty_iff.1 hf];rfl
 show NG ⟨xk,xr,xn,xe.map bareN,xf.map bareN,xm,xb,xl,0⟩=NG ⟨xk,xr,xn,xe,xf,xm,xb,xl,xp⟩;unfold NG;simp only[e1,e2]
theorem QIO (b:Bk):∀ind,b.flat.all EY=true->B7 ind (GI b)=B7 ind b:=by
 induction b with
 |nil=>intro ind _;rfl
 |cons s b e r h1 h2 h3=>
  intro ind h;simp only[Bk.flat,List.all_cons,List.all_append,Bool.and_eq_true]at h;obtain⟨a1,a2,a3,a4⟩:=h;simp only[GI,B7,QIN a1,h1 _ a2,h2 _ a3,h3 _ a4,FG];rfl
theorem QIP {L:List Stm} (h:CP L=true):bodyT (L.map bareS)=bodyT L:=by
 obtain⟨b,rfl,⟨hf,hg⟩,_⟩:=Dq h;unfold bodyT;rw[<-KI,ME (QAQ hf),ME hf];exact QIO b _ hg
theorem QIQ:∀l:List Cel,Ly (l.map bareCel)=Ly l
 |[]=>rfl
 |[_]=>rfl
 |c::d::l=>by
  have:=QIQ (d::l);rw[List.map_cons]at this;simp only[List.map_cons,Ly,this];rfl
theorem QIR (w:List UInt8) (l:List Cel):rowT w (l.map bareCel)=rowT w l:=by unfold rowT;rw[QIQ]
theorem QIS (w:List UInt8) (l:List Cel):Nc w (l.map bareCel)=Nc w l:=by
 unfold Nc;rw[QIR];cases l<;>rfl
theorem QIT {b:Bool} {t:Thr} (h:Bv b t=true) (head:List UInt8):B8 head (CJ t)=B8 head t:=by
 unfold B8;simp only[CJ,QIP (Jn h).2.2.2.1]
theorem QIU {α:Type} {g:α->α} {f:α->List UInt8} {l:List α} (h:∀a∈l,f (g a)=f a):(l.map g).flatMap f=l.flatMap f:=by
 induction l with
 |nil=>rfl
 |cons a l ih=>simp only[List.map_cons,List.flatMap_cons,h a (by simp),ih fun a ha=>h a (by simp[ha])]
theorem QIV {p:Prg} (h:BH p=true):BQ (Dv p)=BQ p:=by
 obtain⟨h1,h2,h3,h4,h5,h6,_⟩:=LK h;rw[List.all_eq_true]at h2 h5 h6;unfold BQ;simp only[Dv,QIS];have e1:(p.lines.map (·.map bareCel)).flatMap (rowT DG)=p.lines.flatMap (rowT DG):=QIU (g:=fun l:List Cel=>l.map bareCel) fun l _=>QIR _ l
 have e2:(p.threads.map CJ).flatMap IG=p.threads.flatMap IG:=QIU fun t ht=>QIT (h5 t ht) _
 have e3:(p.recs.map CJ).flatMap (B8 Az)=p.recs.flatMap (B8 Az):=QIU fun t ht=>QIT (h6 t ht) _
 have e4:(p.claims.map EU).flatMap KJ=p.claims.flatMap KJ:=QIU fun c hc=>by
  have:=h2 c hc;unfold Eo at this;rw[Bool.and_eq_true]at this;unfold KJ EU;simp only[QIM this.2]
 rw[e1,e2,e3,e4]
def QIW (d:Nat):Clm:=⟨[⟨4,0,[],0⟩,⟨1,d,[],0⟩],0⟩
theorem QIX {d:Nat} (h:d<8):Eo (QIW d)=true:=by
 have:∀d:Fin 8,Eo (QIW d.1)=true:=by decide+kernel
 exact this ⟨d,h⟩
theorem QIY {d:Nat} (h:d<8):KJ (QIW d)=Ak++[32,33,UInt8.ofNat (48+d),59,10]:=by
 have:∀d:Fin 8,KJ (QIW d.1)=Ak++[32,33,UInt8.ofNat (48+d.1),59,10]:=by decide+kernel
 exact this ⟨d,h⟩
end Go.Proofs.YthfkpalfopdmhaaGreatDoor
namespace Go.Proofs.YthfkpalfopdmhaaGreatDoor
open Go.RowKit
theorem QIm {wa w5:World} {B d:Nat} {u:Pv} {P:Prg} {K:List Cv} {x:Cv} {v5:Value} {cs:Array Value} (h:B9 wa B u P) (hK:Dy wa B u.f K) (hm:K.map (·.c)=P.claims) (hx:B0 B wa x.vE x.c.e) (hg:wa.grownBy w5 u.f.ownBlock)
  (hr:w5.ownsRow B 50 2 v5 (K.length+1) (K.flatMap Ed++Ed x)) (hd:wa.heap[d]?=some (.cells cs 27 (0,0))):
  B9 (w5.setCell ⟨d,5,none⟩ v5) B {u with f:=v5} (Nn P x.c)/\w5.heap[d]?=some (.cells cs 27 (0,0))/\AG (fun q=>q=d\/u.f.ownBlock=some q) wa (w5.setCell ⟨d,5,none⟩ v5):=by
 have hk:AG (fun q=>u.f.ownBlock=some q) wa w5:=AG.grown hg;have hks:AG (fun q=>q=d) w5 (w5.setCell ⟨d,5,none⟩ v5):=AG.set;have hty:=AI hK.row;have hn:¬u.f.ownBlock=some d:=fun e=>by
  obtain⟨_,cs',h5⟩:=hty d e;rw[hd]at h5;simp at h5
 have hd5:w5.heap[d]?=some (.cells cs 27 (0,0)):=(hk.block d (Array.getElem?_eq_some_iff.1 hd).1 hn).trans hd;have av:∀Ts:List TypeId,(50:TypeId)∉Ts->Av (fun q=>u.f.ownBlock=some q) wa B Ts:=fun Ts hT q cs' T' _ hh hT' e=>by
  obtain⟨_,c',h5⟩:=hty q e;rw[h5]at hh;simp only[Option.some.injEq,Obj.cells.injEq]at hh;exact hT (hh.2.1▸hT')
 refine⟨⟨(h.lines.keepT hk (av _ (by decide))).keepT hks (X1 hd5 (by decide)),(h.vols.keepT hk (av _ (by decide))).keepT hks (X1 hd5 (by decide)),(h.locks.keepT hk (av _ (by decide))).keepT hks (X1 hd5 (by decide)),(h.threads.keepT hk (av _ (by decide))).keepT hks (X1 hd5 (by decide)),(h.recs.keepT hk (av _ (by decide))).keepT hks (X1 hd5 (by decide)),?_⟩,hd5,hk.trans hks (fun _ _ h=>.inr h) (fun _ _ h=>.inl h)⟩;exact⟨K++[x],(Yo hK hx hg hr).keepT hks (X1 hd5 (by decide)),by rw[List.map_append,hm];rfl⟩
theorem QIn (w:World) (d:Int):Bn (w.alloc (.cells #[.int .i64 4,.int .i64 0,.string ⟨#[]⟩,.int .i64 0,.int .i64 1,.int .i64 d,.string ⟨#[]⟩,.int .i64 0] 46)) w.heap.size (.slice (some ⟨w.heap.size,0,none⟩) 2 2) [⟨4,0,[],0⟩,⟨1,d,[],0⟩]:=
 ⟨rfl,.inr ⟨w.heap.size,2,_,rfl,Nat.le_refl _,heap_alloc_new w _,Nat.le_refl 2,by decide,rfl,rfl⟩⟩
theorem and7 (n:Int):∃d:Nat,d<8/\bits .and .i64 n 7=(d:Int):=by
 have e:bits .and .i64 n 7=IntKind.i64.wrap ((BitVec.ofInt 64 n &&& BitVec.ofInt 64 7).toNat:Int):=rfl;have h:(BitVec.ofInt 64 n &&& BitVec.ofInt 64 7).toNat<=7:=by
  rw[BitVec.toNat_and];exact Nat.le_trans Nat.and_le_right (by decide)
 refine⟨_,Nat.lt_succ_of_le h,?_⟩;rw[e,IntKind.wrap_i64];omega
theorem QIo (x:World) (c:UInt8):(convert 51 9 (.slice (some ⟨x.heap.size,0,none⟩) 1 1)).run Tryz.prog (x.alloc (.cells #[.int .u8 (c.toNat:Int)] 5))=.ok (.string ⟨#[c]⟩) (x.alloc (.cells #[.int .u8 (c.toNat:Int)] 5)):=by
 refine run_convert_bytes_back _ 51 9 5 ⟨x.heap.size,0,none⟩ 1 [c] Tryz.underlying51 Tryz.underlying5 Tryz.underlying9 (fun j hj=>?_);have hj0:j=0:=by simp at hj;omega
 subst hj0;simp[Addr.add]
theorem QIp (p:MR) (c:Clm):Un (Nn (Dv (Nj p)) c):=by
 have l1:(Jk p.rL (min p.nL 6)).length<=6:=by rw[Oa];omega
 have l2:(EK p.rV (min p.nV 8)).length<=8:=by rw[IW];omega
 have l3:(EK p.rK (min p.nK 8)).length<=8:=by rw[IW];omega
 have l4:(FI p.rT (min p.nT 4)).length<=4:=by rw[Lm];omega
 have l5:(FI p.rO (min p.nO 4)).length<=4:=by rw[Lm];omega
 have l6:(KZ p.rM (min p.nM 6)).length<=6:=by rw[Ob];omega
 have hb:∀(R:Nat->Jj) (k:Nat),∀t∈(FI R k).map CJ,t.regs.length<=10000:=fun R k t ht=>by
  obtain⟨t',h1,rfl⟩:=List.mem_map.1 ht;obtain⟨r,rfl⟩:=Xz _ _ _ h1;show(Gq r).regs.length<=10000;have:=(Uh r).2.2.1;omega
 refine⟨?_,fun l hl=>?_,?_,?_,?_,?_,?_,?_,?_⟩
 ·show((Jk p.rL (min p.nL 6)).map (·.map bareCel)).length<=_;rw[List.length_map];omega
 ·have hl':l∈(Jk p.rL (min p.nL 6)).map (·.map bareCel):=hl;obtain⟨l',h1,rfl⟩:=List.mem_map.1 hl';have:=(X0 _ _ _ h1).1;rw[List.length_map];omega
 ·show((EK p.rV (min p.nV 8)).map bareCel).length<=_;rw[List.length_map];omega
 ·show((EK p.rK (min p.nK 8)).map bareCel).length<=_;rw[List.length_map];omega
 ·show((FI p.rT (min p.nT 4)).map CJ).length<=_;rw[List.length_map];omega
 ·exact hb _ _
 ·show((FI p.rO (min p.nO 4)).map CJ).length<=_;rw[List.length_map];omega
 ·exact hb _ _
 ·show((KZ p.rM (min p.nM 6)).map EU++[c]).length<=_;rw[List.length_append,List.length_map];simp;omega
theorem QIs {α β:Type} {f:α->β} {l m:List α} (h:l.map f=m.map f):l.length=m.length/\∀a∈l,∃b∈m,f b=f a:=by
 refine⟨by simpa using congrArg List.length h,fun a ha=>?_⟩;have:=List.mem_map_of_mem (f:=f) ha;rw[h,List.mem_map]at this;exact this
theorem QIt {l m:List Nod} (h:l.map bareN=m.map bareN) (hs:Ej m):Ej l:=fun a ha=>by
 obtain⟨b,hb,e⟩:=(QIs h).2 a ha;have e':b.name=a.name:=(congrArg Nod.name e:)
 rw[<-e'];exact hs b hb
theorem QIu {l m:List Cel} (h:l.map bareCel=m.map bareCel) (hs:∀c∈m,Dt c):∀c∈l,Dt c:=fun a ha=>by
 obtain⟨b,hb,e⟩:=(QIs h).2 a ha;have e':b.name=a.name:=(congrArg Cel.name e:)
 unfold Dt;rw[<-e'];exact hs b hb
theorem QIv {a b:Stm} (e:bareS b=bareS a) (h:Fb b):Fb a:=by
 obtain⟨h1,h2,h3,h4,h5,h6⟩:=h;have e1:b.reg=a.reg:=(congrArg Stm.reg e:)
 have e2:b.name=a.name:=(congrArg Stm.name e:)
 have e3:b.e.map bareN=a.e.map bareN:=(congrArg Stm.e e:)
 have e4:b.f.map bareN=a.f.map bareN:=(congrArg Stm.f e:)
 exact⟨e1▸h1,e2▸h2,(QIs e3).1▸h3,(QIs e4).1▸h4,QIt e3.symm h5,QIt e4.symm h6⟩
theorem QIw {l m:List Thr} (h:l.map CJ=m.map CJ) (hs:∀t∈m,DX t):∀t∈l,DX t:=fun a ha=>by
 obtain⟨b,hb,e⟩:=(QIs h).2 a ha;obtain⟨h1,h2,h3,h4,h5⟩:=hs b hb;have e1:b.name=a.name:=(congrArg Thr.name e:)
 have e2:b.regs=a.regs:=(congrArg Thr.regs e:)
 have e3:b.body.map bareS=a.body.map bareS:=(congrArg Thr.body e:)
 refine⟨e1▸h1,e2▸h2,e2▸h3,fun x hx=>?_,(QIs e3).1▸h5⟩;obtain⟨y,hy,e4⟩:=(QIs e3.symm).2 x hx;exact QIv e4 (h4 y hy)
theorem QIx {p q:Prg} (h:Dv p=Dv q) (hs:GU q):GU p:=by
 unfold Dv at h;simp only[Prg.mk.injEq]at h;obtain⟨h1,h2,h3,h4,h5,h6⟩:=h;refine⟨(QIs h1).1▸hs.nl,fun l hl=>?_,(QIs h2).1▸hs.nv,QIu h2 hs.vols,(QIs h3).1▸hs.nk,QIu h3 hs.locks,(QIs h4).1▸hs.nt,QIw h4 hs.threads,(QIs h5).1▸hs.nr,QIw h5 hs.recs,(QIs h6).1▸hs.nc,fun a ha=>?_⟩
 ·obtain⟨m,hm,e⟩:=(QIs h1).2 l hl;have:=hs.lines m hm;exact⟨(QIs e).1▸this.1,QIu e.symm this.2⟩
 ·obtain⟨b,hb,e⟩:=(QIs h6).2 a ha;have e':b.e.map bareN=a.e.map bareN:=(congrArg Clm.e e:)
  have:=hs.claims b hb;exact⟨QIt e'.symm this.1,(QIs e').1▸this.2⟩
theorem QIy {p:Prg} (h:BH p=true) (hl:(JJ p).length<=3000) {d:Nat} (hd:d<8):
  JJ (Nn (Dv p) (QIW d))=JJ p++(Ak++[32,33,UInt8.ofNat (48+d),59,10])/\∃q,EN (JJ (Nn (Dv p) (QIW d)))=⟨q,0,0⟩/\Dv q=Dv (Nn (Dv p) (QIW d)):=by
 have hb:=Xc h;have hr:=Qv hb (QIX hd);have e:JJ (Nn (Dv p) (QIW d))=JJ p++(Ak++[32,33,UInt8.ofNat (48+d),59,10]):=by
  rw[SZ hr,QIK,QIV h,SZ h,QIY hd]
 exact⟨e,QHm hr (by rw[e,List.length_append];have:(Ak++[32,33,UInt8.ofNat (48+d),59,10]).length=11:=rfl;omega)⟩
set_option maxRecDepth 100000 in
set_option maxHeartbeats 16000000 in
theorem QIr (hfix:∀w,Tabs w->Calls Tryz.prog 13 #[] w (X3 w)) (p:MR) (n:Int) (w:World) (hA:QAI w p) (ht:Tabs w):Calls Tryz.prog 9 #[QAJ p,.int .i64 n] w (X3 w):=by
 have HFX:=AA hfix;have HT:=AA ht;have HS:=AA (QA2 p);have HTX:=AA (fun h=>QDM (p:=p) h);have hal:=(Below.refl w.heap.size w).alloc (Nat.le_refl _) (.cells #[.slice p.aL p.nL p.cL,.slice p.aV p.nV p.cV,.slice p.aK p.nK p.cK,.slice p.aT p.nT p.cT,.slice p.aO p.nO p.cO,.slice p.aM p.nM p.cM] 27);have HB:=AA hal;have HX:=AA (Js w (.slice p.aL p.nL p.cL) (.slice p.aV p.nV p.cV) (.slice p.aK p.nK p.cK) (.slice p.aT p.nT p.cT) (.slice p.aO p.nO p.cO) (.slice p.aM p.nM p.cM));have HC:=AA (QDW p _ (hA.on hal));obtain⟨b0,hb0⟩:∃b,w.heap.size=b:=⟨_,rfl⟩
 clear ht hA hal hfix;unfold QAJ at HC⊢;go_enter Tryz.func9,Tryz.ntmps9;go_upto_region 1 with(fail)
 rw[hb0]at HX;generalize w.alloc (.cells #[.slice p.aL p.nL p.cL,.slice p.aV p.nV p.cV,.slice p.aK p.nK p.cK,.slice p.aT p.nT p.cT,.slice p.aO p.nO p.cO,.slice p.aM p.nM p.cM] 27)=x0 at *;have HB0:=AA hb0;clear hb0;obtain⟨l,z0,z1,z2,z3,z4,z5, -, -, -, -, -, -⟩:=AX HX.out;go_wp2_with fail
 refine HC.out.mono ?_;rintro e w1 ⟨u,rfl,ho,hb⟩;obtain⟨A1,n1,m1,A2,n2,m2,A3,n3,m3,A4,n4,m4,A5,n5,m5,A6,n6,m6,rfl⟩:=ho.forms;have hx1:=HX.out.on hb;have hk:=KU w1 b0 ⟨.slice A1 n1 m1,.slice A2 n2 m2,.slice A3 n3 m3,.slice A4 n4 m4,.slice A5 n5 m5,.slice A6 n6 m6⟩;have hp1:=Nu hx1 ⟨.slice A1 n1 m1,.slice A2 n2 m2,.slice A3 n3 m3,.slice A4 n4 m4,.slice A5 n5 m5,.slice A6 n6 m6⟩;have ha1:=ho.keepT hk (Ks (show w1.heap[b0]?=some (.cells _ 27 (0,0))from hx1) (by decide));have hw1:=(AC HB.out hb).trans (hk.below (fun q hq e=>by have:=HB0.out;omega) (AC HB.out hb).size);clear l z0 z1 z2 z3 z4 z5 HC
 obtain⟨l,z0,z1,z2,z3,z4,z5,k0,k1,k2,k3,k4,k5⟩:=AX hx1;unfold Hl;unfold JB at hp1 ha1 hw1;replace HX:=AA hp1;replace HB:=AA hw1;have HA:=AA ha1;clear hp1 hw1 ha1 hk hx1 ho hb;go_upto_region 2 with(fail)
 generalize((((((w1.setCell ⟨b0,0,none⟩ (.slice A1 n1 m1)).setCell ⟨b0,1,none⟩ (.slice A2 n2 m2)).setCell ⟨b0,2,none⟩ (.slice A3 n3 m3)).setCell ⟨b0,3,none⟩ (.slice A4 n4 m4)).setCell ⟨b0,4,none⟩ (.slice A5 n5 m5)).setCell ⟨b0,5,none⟩ (.slice A6 n6 m6))=V at *;clear l z0 z1 z2 z3 z4 z5 k0 k1 k2 k3 k4 k5;obtain⟨sh,hsh⟩:∃sh,JJ (Nj p)=sh:=⟨_,rfl⟩
 have HSH:=AA hsh;have HC1:=AA (QA3 HA.out HS.out.1 (HT.out.on HB.out) HTX.out);rw[hsh]at HC1;obtain⟨l,z0,z1,z2,z3,z4,z5, -, -, -, -, -, -⟩:=AX HX.out;clear hsh;unfold Hl at HC1;go_wp2_with fail
 refine HC1.out.mono ?_;rintro e w2 ⟨rfl,hb⟩;replace HB:=AA (AC HB.out hb);replace HA:=AA (HA.out.on hb);replace HX:=AA (HX.out.on hb);clear hb l z0 z1 z2 z3 z4 z5 HC1;obtain⟨l,z0,z1,z2,z3,z4,z5, -, -, -, -, -, -⟩:=AX HX.out;have HC2:=AA (RJ HA.out HS.out.1 (HT.out.on HB.out));obtain⟨q,hq⟩:∃q,BH (Nj p)=q:=⟨_,rfl⟩
 have HQ:=AA hq;rw[hq]at HC2;clear hq;unfold Hl at HC2;go_wp2_with fail
 refine HC2.out.mono ?_;rintro e w3 ⟨rfl,hb⟩;replace HB:=AA (AC HB.out hb);replace HA:=AA (HA.out.on hb);replace HX:=AA (HX.out.on hb);clear hb l z0 z1 z2 z3 z4 z5 HC2;cases q with
 |false=>
  go_wp2_with fail
  refine(HFX.out _ (HT.out.on HB.out)).mono ?_;rintro e w9 ⟨rfl,hb⟩;go_wp2_with fail
  go_ret;exact⟨rfl,AC HB.out hb⟩
 |true=>
  by_cases hbig:3000<sh.length
  ·have hcmp:(3000:Int)<(sh.length:Int):=by omega
   go_wp2_with fail
   refine(HFX.out _ (HT.out.on HB.out)).mono ?_;rintro e w9 ⟨rfl,hb⟩;go_wp2_with fail
   go_ret;exact⟨rfl,AC HB.out hb⟩
  have hcmp:¬(3000:Int)<(sh.length:Int):=by omega
  obtain⟨d,hd,hdn⟩:=and7 n;obtain⟨g1,qq,g2,gl⟩:=QIy HQ.out (by rw[HSH.out];omega) hd;rw[HSH.out]at g1;rw[g1]at g2;obtain⟨c,hc⟩:∃c,UInt8.ofNat (48+d)=c:=⟨_,rfl⟩
  rw[hc]at g1 g2;have HCC:=AA hc;clear hc;have G1:=AA g1;have G2:=AA g2;have G3:=AA (QIJ gl);have GL:=AA gl;have HD:=AA hd;have HDN:=AA hdn;have HC3:=AA (PE HA.out HS.out.2);have HSZ:=AA (show(Dv (Nj p)).claims.length<=6 from by show((KZ p.rM (min p.nM 6)).map EU).length<=6;rw[List.length_map,Ob];omega);obtain⟨l,z0,z1,z2,z3,z4,z5, -, -, -, -, -, -⟩:=AX HX.out;unfold Hl at HC3;clear g1 g2 gl hd hdn HA;go_wp2_with fail
  refine HC3.out.mono ?_;rintro e u4 ⟨pu,rfl,ho,hb⟩;have HWL:=AA HB.out.size;clear l z0 z1 z2 z3 z4 z5 HC3;replace HB:=AA (AC HB.out hb);obtain⟨C1,r1,s1,C2,r2,s2,C3,r3,s3,C4,r4,s4,C5,r5,s5,C6,r6,s6,rfl⟩:=ho.forms;have hal:=(Below.refl u4.heap.size u4).alloc (Nat.le_refl _) (.cells #[.slice C1 r1 s1,.slice C2 r2 s2,.slice C3 r3 s3,.slice C4 r4 s4,.slice C5 r5 s5,.slice C6 r6 s6] 27);have HX6:=AA (Js u4 (.slice C1 r1 s1) (.slice C2 r2 s2) (.slice C3 r3 s3) (.slice C4 r4 s4) (.slice C5 r5 s5) (.slice C6 r6 s6));have HA6:=AA (ho.on hal);have HBW:=AA (Nat.le_trans HB.out.size hal.size)
  replace HB:=AA (AC HB.out hal);obtain⟨b6,hb6⟩:∃b,u4.heap.size=b:=⟨_,rfl⟩
  have HW3:Hid (w.heap.size<=w3.heap.size):=AA HWL.out;have HB6:Hid (w3.heap.size<=b6):=AA (by rw[<-hb6];exact hb.size);clear ho hal;go_upto_region 6 with(fail)
  rw[hb6]at HX6;generalize u4.alloc (.cells #[.slice C1 r1 s1,.slice C2 r2 s2,.slice C3 r3 s3,.slice C4 r4 s4,.slice C5 r5 s5,.slice C6 r6 s6] 27)=x4 at *;clear hb6 hb;obtain⟨i1,hi1,hy0,hy1,hy2⟩:=info_parts Yf;have HY:=AA (show Tryz.prog.info? 50=some i1/\i1.zero=some (.agg #[.slice none 0 0,.int .i64 0])/\i1.size=2/\i1.bytes=32 from⟨hi1,hy0,hy1,hy2⟩);obtain⟨K,hK,hm⟩:=HA6.out.claims;have hr6:K.length=r6:=by
   obtain⟨A,c,hv,_⟩:=hK.reads;simp only[Value.slice.injEq]at hv;exact hv.2.1.symm
  subst hr6;have HK:=AA hK;have HM:=AA hm;have HKL:Hid (K.length<=6):=AA (by have:=HSZ.out;rw[<-hm,List.length_map]at this;exact this);have HBS:Hid (w3.heap.size<=x4.heap.size):=AA (by have:=(Array.getElem?_eq_some_iff.1 (show x4.heap[b6]?=some _ from HX6.out)).1;have:=HB6.out;omega);obtain⟨lb6,y0,y1,y2,y3,y4,y5,k0,k1,k2,k3,k4,k5⟩:=AX HX6.out;have hdn:=HDN.out;clear hi1 hy0 hy1 hy2 hK hm
  go_wp2_with (at_builtin;refine wpList_append_own _ rfl (.tmp 28) (.tmp 35) 25 rfl w3.heap.size 50 i1 (.agg #[.slice none 0 0,.int .i64 0]) 2 32 Tryz.underlying25 HY.out.1 HY.out.2.1 HY.out.2.2.1 HY.out.2.2.2 rfl (by decide) _ K.length (K.flatMap Ed) rfl ?gO ⟨x4.heap.size+1,0,none⟩ 1 1 [.slice (some ⟨x4.heap.size,0,none⟩) 2 2,.int .i64 0] (by rfl) (by rfl) ?g1 ?g2 ?g3 ?g4 ?g5 ?_)
  case gO=>exact(HK.out.on (((Below.refl x4.heap.size x4).alloc (Nat.le_refl _) _).alloc (by simp) _)).row
  case g2=>exact⟨rfl,rfl⟩
  case g3=>have:=HKL.out;unfold maxLen;omega
  case g4=>have:=HKL.out;omega
  case g5=>have:=HBS.out;simp;omega
  intro v5 w5 hown5 hgrow5 _;obtain⟨A7,n7,c7,rfl⟩:∃A n c,v5=.slice A n c:=by
   obtain⟨A,c,hv,_⟩:=AS hown5;exact⟨A,_,c,hv⟩
  have h8:Below x4.heap.size x4 (x4.alloc (.cells #[.int .i64 4,.int .i64 0,.string ⟨#[]⟩,.int .i64 0,.int .i64 1,.int .i64 d,.string ⟨#[]⟩,.int .i64 0] 46)):=(Below.refl _ _).alloc (Nat.le_refl _) _;have h9:=AC h8 ((Below.refl (x4.alloc (.cells #[.int .i64 4,.int .i64 0,.string ⟨#[]⟩,.int .i64 0,.int .i64 1,.int .i64 d,.string ⟨#[]⟩,.int .i64 0] 46)).heap.size _).alloc (Nat.le_refl _) (.cells #[.slice (some ⟨x4.heap.size,0,none⟩) 2 2,.int .i64 0] 50));have hx8:=((QIn x4 d).readE HBS.out).on ((Below.refl _ _).alloc (Nat.le_refl _) (.cells #[.slice (some ⟨x4.heap.size,0,none⟩) 2 2,.int .i64 0] 50))
  obtain⟨a1,a2,a3⟩:=QIm (x:=⟨QIW d,.slice (some ⟨x4.heap.size,0,none⟩) 2 2⟩) (HA6.out.on h9) (HK.out.on h9) HM.out hx8 hgrow5 hown5 (HX6.out.on h9);have hB5:Below w.heap.size w (w5.setCell ⟨b6,5,none⟩ (.slice A7 n7 c7)):=(HB.out.trans (h9.mono HBW.out)).trans (a3.below (fun q hq e=>by
   have:=HB6.out;have:=HW3.out;rcases e with e|e
   ·omega
   ·have:=(AI HK.out.row q e).1;omega) (Nat.le_trans HBW.out h9.size))
  have q5:w5.cell? ⟨b6,5,none⟩=some (.slice C6 K.length s6):=by rw[Lib.cell_of_heap a2];rfl
  have j5:=Lib.frozen_of_heap a2 5;have hp6:Jr (w5.setCell ⟨b6,5,none⟩ (.slice A7 n7 c7)) b6 ⟨.slice C1 r1 s1,.slice C2 r2 s2,.slice C3 r3 s3,.slice C4 r4 s4,.slice C5 r5 s5,.slice A7 n7 c7⟩:=AY a2;have HP6:=AA hp6;have HO6:=AA a1;replace HB:=AA hB5;clear h8 h9 hx8 a1 a2 a3 hB5 hp6 hown5 hgrow5 lb6 y0 y1 y2 y3 y4 y5 k0 k1 k2 k3 k4 k5 HK HM HKL HX6 HA6;go_upto_region 7 with(fail)
  generalize w5.setCell ⟨b6,5,none⟩ (.slice A7 n7 c7)=x5 at *
  go_cut [7]from 38 to 43 (fun t wx=>t=.string ⟨#[c]⟩/\Below x5.heap.size x5 wx)
  case first=>
   have hd8:d=0\/d=1\/d=2\/d=3\/d=4\/d=5\/d=6\/d=7:=by have:=HD.out;omega
   clear q5 j5;rcases hd8 with rfl|rfl|rfl|rfl|rfl|rfl|rfl|rfl
   ·have hcv:(convert 51 9 (.slice (some ⟨x5.heap.size,0,none⟩) 1 1)).run Tryz.prog (x5.alloc (.cells #[.int .u8 48] 5))=.ok (.string ⟨#[48]⟩) (x5.alloc (.cells #[.int .u8 48] 5)):=QIo x5 48;go_wp2_with fail
    go_meet;case rel=>exact⟨by rw[<-HCC.out];rfl,(Below.refl _ _).alloc (Nat.le_refl _) _⟩
   ·have hcv:(convert 51 9 (.slice (some ⟨x5.heap.size,0,none⟩) 1 1)).run Tryz.prog (x5.alloc (.cells #[.int .u8 49] 5))=.ok (.string ⟨#[49]⟩) (x5.alloc (.cells #[.int .u8 49] 5)):=QIo x5 49;go_wp2_with fail
    go_meet;case rel=>exact⟨by rw[<-HCC.out];rfl,(Below.refl _ _).alloc (Nat.le_refl _) _⟩
   ·have hcv:(convert 51 9 (.slice (some ⟨x5.heap.size,0,none⟩) 1 1)).run Tryz.prog (x5.alloc (.cells #[.int .u8 50] 5))=.ok (.string ⟨#[50]⟩) (x5.alloc (.cells #[.int .u8 50] 5)):=QIo x5 50;go_wp2_with fail
    go_meet;case rel=>exact⟨by rw[<-HCC.out];rfl,(Below.refl _ _).alloc (Nat.le_refl _) _⟩
   ·have hcv:(convert 51 9 (.slice (some ⟨x5.heap.size,0,none⟩) 1 1)).run Tryz.prog (x5.alloc (.cells #[.int .u8 51] 5))=.ok (.string ⟨#[51]⟩) (x5.alloc (.cells #[.int .u8 51] 5)):=QIo x5 51;go_wp2_with fail
    go_meet;case rel=>exact⟨by rw[<-HCC.out];rfl,(Below.refl _ _).alloc (Nat.le_refl _) _⟩
   ·have hcv:(convert 51 9 (.slice (some ⟨x5.heap.size,0,none⟩) 1 1)).run Tryz.prog (x5.alloc (.cells #[.int .u8 52] 5))=.ok (.string ⟨#[52]⟩) (x5.alloc (.cells #[.int .u8 52] 5)):=QIo x5 52;go_wp2_with fail
    go_meet;case rel=>exact⟨by rw[<-HCC.out];rfl,(Below.refl _ _).alloc (Nat.le_refl _) _⟩
   ·have hcv:(convert 51 9 (.slice (some ⟨x5.heap.size,0,none⟩) 1 1)).run Tryz.prog (x5.alloc (.cells #[.int .u8 53] 5))=.ok (.string ⟨#[53]⟩) (x5.alloc (.cells #[.int .u8 53] 5)):=QIo x5 53;go_wp2_with fail
    go_meet;case rel=>exact⟨by rw[<-HCC.out];rfl,(Below.refl _ _).alloc (Nat.le_refl _) _⟩
   ·have hcv:(convert 51 9 (.slice (some ⟨x5.heap.size,0,none⟩) 1 1)).run Tryz.prog (x5.alloc (.cells #[.int .u8 54] 5))=.ok (.string ⟨#[54]⟩) (x5.alloc (.cells #[.int .u8 54] 5)):=QIo x5 54;go_wp2_with fail
    go_meet;case rel=>exact⟨by rw[<-HCC.out];rfl,(Below.refl _ _).alloc (Nat.le_refl _) _⟩
   ·have hcv:(convert 51 9 (.slice (some ⟨x5.heap.size,0,none⟩) 1 1)).run Tryz.prog (x5.alloc (.cells #[.int .u8 55] 5))=.ok (.string ⟨#[55]⟩) (x5.alloc (.cells #[.int .u8 55] 5)):=QIo x5 55;go_wp2_with fail
    go_meet;case rel=>exact⟨by rw[<-HCC.out];rfl,(Below.refl _ _).alloc (Nat.le_refl _) _⟩
  case rest=>
   obtain⟨rfl,hbx⟩:=hcut;replace HB:=AA (AC HB.out hbx);replace HP6:=AA (HP6.out.on hbx);replace HO6:=AA (HO6.out.on hbx);have hrw:=Qv (Xc HQ.out) (QIX HD.out);have hsm:=(N3 hrw (QIp p (QIW d))).1;have hsl:(BQ (Nn (Dv (Nj p)) (QIW d))).length<=900000000:=by rw[<-SZ hrw,G1.out];simp[Ak];omega
   have HC4:=AA (QFk HO6.out hsm (HT.out.on HB.out) hsl);rw[G1.out]at HC4;have g2:=G2.out;obtain⟨sh2,hsh2⟩:∃s,sh++(Ak++[32,33,c,59,10])=s:=⟨_,rfl⟩
   rw[hsh2]at HC4 g2;have HSQ:=AA (QIx GL.out hsm);have HS2:=AA hsh2;have HG2:=AA g2;obtain⟨l,z0,z1,z2,z3,z4,z5, -, -, -, -, -, -⟩:=AX HP6.out;unfold Hl at HC4;clear hbx hrw hsm hsl g2 hsh2 G1 G2 GL;go_wp2_with fail
   refine HC4.out.mono ?_;rintro e u5 ⟨rfl,hb⟩;replace HB:=AA (AC HB.out hb);replace HP6:=AA (HP6.out.on hb);replace HO6:=AA (HO6.out.on hb);clear hb HC4 l z0 z1 z2 z3 z4 z5;go_wp2_with fail
   refine(Oh ⟨sh2.toArray⟩ _ (HT.out.on HB.out)).mono ?_;rw[show(ByteArray.mk sh2.toArray).data.toList=sh2 from by simp,HG2.out];rintro e u6 ⟨v6,rfl,ho,hb⟩;replace HB:=AA (AC HB.out hb);replace HP6:=AA (HP6.out.on hb);replace HO6:=AA (HO6.out.on hb);obtain⟨D1,t1,v1,D2,t2,v2,D3,t3,v3,D4,t4,v4,D5,t5,v5,D6,t6,v6,rfl⟩:=ho.forms;have hal:=(Below.refl u6.heap.size u6).alloc (Nat.le_refl _) (.cells #[.slice D1 t1 v1,.slice D2 t2 v2,.slice D3 t3 v3,.slice D4 t4 v4,.slice D5 t5 v5,.slice D6 t6 v6] 27)
   have HX9:=AA (Js u6 (.slice D1 t1 v1) (.slice D2 t2 v2) (.slice D3 t3 v3) (.slice D4 t4 v4) (.slice D5 t5 v5) (.slice D6 t6 v6));have HA9:=AA (ho.on hal);replace HB:=AA (AC HB.out hal);replace HP6:=AA (HP6.out.on hal);replace HO6:=AA (HO6.out.on hal);obtain⟨b9,hb9⟩:∃b,u6.heap.size=b:=⟨_,rfl⟩
   clear ho hb hal;unfold Hl;go_upto_region 10 with(fail)
   rw[hb9]at HX9;generalize u6.alloc (.cells #[.slice D1 t1 v1,.slice D2 t2 v2,.slice D3 t3 v3,.slice D4 t4 v4,.slice D5 t5 v5,.slice D6 t6 v6] 27)=x9 at *;clear hb9;have HC5:=AA (QFl HA9.out HO6.out HSQ.out);rw[G3.out]at HC5;unfold Hl at HC5;obtain⟨l,z0,z1,z2,z3,z4,z5, -, -, -, -, -, -⟩:=AX HP6.out;obtain⟨l9,y0,y1,y2,y3,y4,y5, -, -, -, -, -, -⟩:=AX HX9.out;have heq:(⟨sh.toArray⟩:ByteArray)++⟨#[97,108,119,97,121,115,32,33]⟩++⟨#[c]⟩++⟨#[59,10]⟩=⟨sh2.toArray⟩:=by
    rw[<-HS2.out];apply ByteArray.ext;simp[Ak]
   have hc1:¬(9223372036854775807<sh.length+8):=by omega
   have hc2:¬(9223372036854775807<sh.length+8+1):=by omega
   have hc3:¬(9223372036854775807<sh.length+8+1+2):=by omega
   go_wp2_with fail
   refine HC5.out.mono ?_;rintro e u7 ⟨rfl,hb⟩;replace HB:=AA (AC HB.out hb);clear hb HC5 l z0 z1 z2 z3 z4 z5 l9 y0 y1 y2 y3 y4 y5;go_wp2_with fail
   refine(HFX.out _ (HT.out.on HB.out)).mono ?_;rintro e w9 ⟨rfl,hb⟩;go_wp2_with fail
   go_ret;exact⟨rfl,AC HB.out hb⟩
end Go.Proofs.YthfkpalfopdmhaaGreatDoor

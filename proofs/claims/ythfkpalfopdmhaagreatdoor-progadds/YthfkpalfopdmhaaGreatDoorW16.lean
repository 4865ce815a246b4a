/- Texts of the walk, packed. -/
import Derived.Test.YthfkpalfopdmhaaGreatDoorW15
import Derived.Test.YthfkpalfopdmhaaGreatDoorW07
import Derived.Test.YthfkpalfopdmhaaGreatDoorW06
import Derived.Test.YthfkpalfopdmhaaGreatDoorW11
import Derived.Test.YthfkpalfopdmhaaGreatDoorW02
import Derived.Test.YthfkpalfopdmhaaGreatDoorW13
import Derived.RegionTactic
import Derived.Orders
import Derived.Test.YthfkpalfopdmhaaGreatDoorW00
namespace Go.Proofs.YthfkpalfopdmhaaGreatDoor
open Go.RowKit
structure Pq (w:World) (g:Nat) (a b c d:Value):Prop where
 lt:g<w.heap.size
 c0:w.cell? ⟨g,0,none⟩=some a
 c1:w.cell? ⟨g,1,none⟩=some b
 c2:w.cell? ⟨g,2,none⟩=some c
 c3:w.cell? ⟨g,3,none⟩=some d
 f0:w.frozen? ⟨g,0,none⟩=false
 f1:w.frozen? ⟨g,1,none⟩=false
 f2:w.frozen? ⟨g,2,none⟩=false
 f3:w.frozen? ⟨g,3,none⟩=false
theorem Pq.on {w w':World} {g:Nat} {a b c d:Value} (h:Pq w g a b c d) (hb:Below w.heap.size w w'):Pq w' g a b c d:=
 ⟨Nat.lt_of_lt_of_le h.lt hb.size,(hb.cell (p:=⟨g,0,none⟩) h.lt).trans h.c0,(hb.cell (p:=⟨g,1,none⟩) h.lt).trans h.c1,(hb.cell (p:=⟨g,2,none⟩) h.lt).trans h.c2,(hb.cell (p:=⟨g,3,none⟩) h.lt).trans h.c3,(hb.frozen (p:=⟨g,0,none⟩) h.lt).trans h.f0,(hb.frozen (p:=⟨g,1,none⟩) h.lt).trans h.f1,(hb.frozen (p:=⟨g,2,none⟩) h.lt).trans h.f2,(hb.frozen (p:=⟨g,3,none⟩) h.lt).trans h.f3⟩
theorem Pq.set {w:World} {g:Nat} {a b c d:Value} (h:Pq w g a b c d) (a' b' c' d':Value):Pq ((((w.setCell ⟨g,0,none⟩ a').setCell ⟨g,1,none⟩ b').setCell ⟨g,2,none⟩ c').setCell ⟨g,3,none⟩ d') g a' b' c' d':=by
 have o:∀(w:World) (j k:Nat) (x:Value),j≠k->(w.setCell ⟨g,j,none⟩ x).cell? ⟨g,k,none⟩=w.cell? ⟨g,k,none⟩:=fun w j k x hjk=>World.cell?_setCell_other _ _ _ _ (fun e=>hjk (congrArg Addr.off e))
 refine⟨by simpa using h.lt,?_,?_,?_,?_,by simpa using h.f0,by simpa using h.f1,by simpa using h.f2,by simpa using h.f3⟩
 ·rw[o _ 3 0 _ (by decide),o _ 2 0 _ (by decide),o _ 1 0 _ (by decide)];exact World.cell?_setCell_same _ _ _ h.c0
 ·rw[o _ 3 1 _ (by decide),o _ 2 1 _ (by decide)];exact World.cell?_setCell_same _ _ _ (by rw[o _ 0 1 _ (by decide)];exact h.c1)
 ·rw[o _ 3 2 _ (by decide)];exact World.cell?_setCell_same _ _ _ (by rw[o _ 1 2 _ (by decide),o _ 0 2 _ (by decide)];exact h.c2)
 ·exact World.cell?_setCell_same _ _ _ (by rw[o _ 2 3 _ (by decide),o _ 1 3 _ (by decide),o _ 0 3 _ (by decide)];exact h.c3)
end Go.Proofs.YthfkpalfopdmhaaGreatDoor
namespace Go.Proofs.YthfkpalfopdmhaaGreatDoor
theorem YL {L:List Tok} {i:Nat} {s t:List UInt8} (h:isB L i s=true) (h2:isB L i t=true):s=t:=by
 unfold isB at h h2;simp only[Int.natCast_nonneg,Int.toNat_natCast]at h h2;cases hl:L[i]? with
 |none=>simp[hl]at h
 |some a=>
  simp[hl]at h h2;rw[<-h.2,<-h2.2]
end Go.Proofs.YthfkpalfopdmhaaGreatDoor
namespace Go.Proofs.YthfkpalfopdmhaaGreatDoor
open Go.RowKit
theorem QB1 {L:List Tok} {i:Nat} {s:List UInt8} {t:Tok} (h:isB L i s=true) (ht:L[i]?=some t):t.text=s:=by
 unfold isB at h;rw[Int.toNat_natCast,ht]at h;simp at h;exact h.2
def Uu (w:World) (b:Nat) (a0 a1 a2 a3:Value):Prop:=w.heap[b]?=some (.cells #[a0,a1,a2,a3] 67 (0,0))
theorem Uu.lt {w:World} {b:Nat} {a0 a1 a2 a3:Value} (h:Uu w b a0 a1 a2 a3):b<w.heap.size:=(Array.getElem?_eq_some_iff.1 h).1
theorem Uu.cells {w:World} {b:Nat} {a0 a1 a2 a3:Value} (h:Uu w b a0 a1 a2 a3):
  w.cell? ⟨b,0,none⟩=some a0/\w.cell? ⟨b,1,none⟩=some a1/\w.cell? ⟨b,2,none⟩=some a2/\w.cell? ⟨b,3,none⟩=some a3:=
 ⟨cell_of_row w b 0 _ 67 (0,0) h,cell_of_row w b 1 _ 67 (0,0) h,cell_of_row w b 2 _ 67 (0,0) h,cell_of_row w b 3 _ 67 (0,0) h⟩
theorem Uu.free {w:World} {b:Nat} {a0 a1 a2 a3:Value} (h:Uu w b a0 a1 a2 a3) (j:Nat):w.frozen? ⟨b,j,none⟩=false:=by
 unfold Uu at h;simp[World.frozen?,h]
theorem Uu.on {w w':World} {B b:Nat} {a0 a1 a2 a3:Value} (h:Uu w b a0 a1 a2 a3) (hb:Below B w w') (hB:b<B):Uu w' b a0 a1 a2 a3:=(hb.block b hB).trans h
theorem Uu.set1 {w:World} {b:Nat} {a0 a1 a2 a3:Value} (h:Uu w b a0 a1 a2 a3) (u:Value):Uu (w.setCell ⟨b,1,none⟩ u) b a0 u a2 a3:=by
 unfold Uu at *;simp[World.setCell,Array.getElem?_modify,h]
theorem Uu.set2 {w:World} {b:Nat} {a0 a1 a2 a3:Value} (h:Uu w b a0 a1 a2 a3) (u:Value):Uu (w.setCell ⟨b,2,none⟩ u) b a0 a1 u a3:=by
 unfold Uu at *;simp[World.setCell,Array.getElem?_modify,h]
def MM (p:UInt8->Bool) (s:ByteArray) (k j:Nat):Prop:=k<=j/\j<=s.size/\∀i,k<=i->(hi:i<s.size)->i<j->p (s[i]'hi)=true
theorem MM.start (p:UInt8->Bool) (s:ByteArray) (k:Nat) (h:k<=s.size):MM p s k k:=⟨Nat.le_refl _,h,fun i h1 _ h2=>absurd h2 (by omega)⟩
theorem MM.succ {p:UInt8->Bool} {s:ByteArray} {k j:Nat} (h:MM p s k j) (hj:j<s.size) (hp:p (s[j]'hj)=true):MM p s k (j+1):=
 ⟨by have:=h.1;omega,by omega,fun i h1 hi h2=>by
  by_cases e:i=j
  ·subst e;exact hp
  ·exact h.2.2 i h1 hi (by omega)⟩
theorem MM.len {p:UInt8->Bool} {s:ByteArray} {k j:Nat} (h:MM p s k j) (he:(h:j<s.size)->p (s[j]'h)=false):((s.data.toList.drop k).takeWhile p).length=j-k:=
 ZM p s k j h.1 h.2.1 (fun i h1 h2=>h.2.2 i h1 (by have:=h.2.1;omega) h2) he
end Go.Proofs.YthfkpalfopdmhaaGreatDoor
namespace Go.Proofs.YthfkpalfopdmhaaGreatDoor
open Go
theorem IX (num:Bool) (L:List Tok) (i:Nat):EZ L i (GW num L i):=by
 unfold GW;refine Aq (Ao L i) fun s j hs=>?_
 have hj:=(Ao L i).tq hs;split
 ·split
  ·rename_i m hm
   have hlt:j+1<L.length:=by
    unfold numAt at hm;split at hm
    ·rename_i t ht;exact(List.getElem?_eq_some_iff.1 ht).1
    ·cases hm
   exact⟨by omega,by omega⟩
  ·exact(GH (by omega)).le
 ·exact FC _ hj
theorem FM {num:Bool} {L:List Tok}:∀(f i:Nat) (r:RS (List Cel)),Be num L f i=some r->EZ L i r:=by
 intro f
 induction f with
 |zero=>intro i r h;cases h
 |succ f ih=>
  intro i r h;unfold Be at h;have ha:=IX num L i;rcases RS.obind_some h with⟨c,k,h1,h2⟩|⟨e,p,h1,rfl⟩
  ·rw[Option.some.inj h1]at ha;obtain⟨a1,a2⟩:=ha;split at h2
   ·rename_i hq
    have:=Bl hq;rcases RS.obind_some h2 with⟨r',k2,h3,h4⟩|⟨e,p,h3,rfl⟩
    ·obtain rfl:=Option.some.inj h4;have:=ih _ _ h3;exact⟨by have:=this.1;omega,this.2⟩
    ·exact ih (k+1) _ h3
   ·have am:=Ab L k [59];rcases RS.obind_some h2 with⟨r',k2,h3,h4⟩|⟨e,p,h3,rfl⟩
    ·obtain rfl:=Option.some.inj h4;rw[Option.some.inj h3]at am;exact⟨by have:=am.1;omega,am.2⟩
    ·rw[Option.some.inj h3]at am;exact am
  ·rw[Option.some.inj h1]at ha;exact ha
theorem Qr {num:Bool} {L:List Tok}:∀(f i:Nat),i<=L.length->L.length+1<=f+i->∃r,Be num L f i=some r:=by
 intro f
 induction f with
 |zero=>intro i h1 h2;omega
 |succ f ih=>
  intro i h1 h2;unfold Be;refine AW ⟨_,rfl⟩ fun c k h=>?_
  have ha:=IX num L i;rw[Option.some.inj h]at ha;split
  ·rename_i hq
   have:=Bl hq;have:=ha.1;exact AW (ih _ (by omega) (by omega)) fun r k2 _=>⟨_,rfl⟩
  ·exact AW ⟨_,rfl⟩ fun r k2 _=>⟨_,rfl⟩
structure Oc {α:Type} (L:List Tok) (f:Nat) (kw:List UInt8) (p:Nat->Option (RS α)):Prop where
 ahead:∀(i:Nat) r,isB L i kw=true->p i=some r->EZ L i r
 total:∀(i:Nat),isB L i kw=true->L.length+1<=f+i->∃r,p i=some r
theorem GL {α:Type} {L:List Tok} {f0:Nat} {kw:List UInt8} {p:Nat->Option (RS α)} (hp:Oc L f0 kw p):∀(f i:Nat) (r:RS (List α)),i<=L.length->CC L kw p f i=some r->JH L i r:=by
 intro f
 induction f with
 |zero=>intro i r _ h;cases h
 |succ f ih=>
  intro i r hi h;unfold CC at h;split at h
  ·rename_i hq
   rcases RS.obind_some h with⟨c,k,h1,h2⟩|⟨e,q,h1,rfl⟩
   ·have ha:=hp.ahead _ _ hq h1;rcases RS.obind_some h2 with⟨r',k2,h3,h4⟩|⟨e,q,h3,rfl⟩
    ·obtain rfl:=Option.some.inj h4;have:=ih _ _ ha.2 h3;exact⟨by have:=this.1;have:=ha.1;omega,this.2⟩
    ·exact ih k _ ha.2 h3
   ·exact hp.ahead _ _ hq h1
  ·obtain rfl:=Option.some.inj h;exact⟨Nat.le_refl _,hi⟩
theorem Hk {α:Type} {L:List Tok} {f0:Nat} {kw:List UInt8} {p:Nat->Option (RS α)} (hp:Oc L f0 kw p):∀(f i:Nat),f<=f0->i<=L.length->L.length+1<=f+i->∃r,CC L kw p f i=some r:=by
 intro f
 induction f with
 |zero=>intro i _ h1 h2;omega
 |succ f ih=>
  intro i hf h1 h2;unfold CC;split
  ·rename_i hq
   refine AW (hp.total _ hq (by omega)) fun c k h=>?_
   have ha:=hp.ahead _ _ hq h;have:=ha.1;exact AW (ih _ (by omega) ha.2 (by omega)) fun r k2 _=>⟨_,rfl⟩
  ·exact⟨_,rfl⟩
theorem It {L:List Tok} {f i o:Nat} {r:RS (List Stm)} (hi:i<=L.length) (h:Hi L f i o=some r):EZ L i r:=by
 unfold Hi at h;rcases RS.obind_some h with⟨b,k,h1,h2⟩|⟨e,q,h1,rfl⟩
 ·have ha:=FT L f _ _ _ _ hi h1;have am:=Ab L k [125];rcases RS.obind_some h2 with⟨_,k2,h3,h4⟩|⟨e,q,h3,rfl⟩
  ·rw[Option.some.inj h3]at am;split at h4
   ·obtain rfl:=Option.some.inj h4;exact(by decide:(2:Int)≠0)
   ·obtain rfl:=Option.some.inj h4;exact⟨by have:=am.1;have:=ha.1;omega,am.2⟩
  ·rw[Option.some.inj h3]at am;exact am
 ·exact FT L f _ _ _ _ hi h1
theorem XZ {L:List Tok} {f i o:Nat} (hi:i<=L.length) (hf:L.length+1<=f+i):∃r,Hi L f i o=some r:=by
 unfold Hi;refine AW (OM L f i 0 0 hi (by omega)) fun b k _=>AW ⟨_,rfl⟩ fun _ k2 _=>?_
 split<;>exact⟨_,rfl⟩
theorem KN {L:List Tok} {f i:Nat} {r:RS (List (List UInt8))} (hi:i<=L.length) (h:IC L f i=some r):JH L i r:=by
 unfold IC at h;split at h
 ·rcases RS.obind_some h with⟨l,k,h1,h2⟩|⟨e,q,h1,rfl⟩
  ·obtain rfl:=Option.some.inj h2;have:=FM _ _ _ h1;exact⟨by have:=this.1;omega,this.2⟩
  ·exact FM _ _ _ h1
 ·obtain rfl:=Option.some.inj h;exact⟨Nat.le_refl _,hi⟩
theorem Xa {L:List Tok} {f i:Nat} (hf:L.length+1<=f+i):∃r,IC L f i=some r:=by
 unfold IC;split
 ·rename_i hq
  have:=Bl hq;exact AW (Qr f (i+1) (by omega) (by omega)) fun l k _=>⟨_,rfl⟩
 ·exact⟨_,rfl⟩
theorem Jo {L:List Tok} {f i:Nat} {name:List UInt8} {pl:Int} {r:RS Thr} (h:Kp L f i name pl=some r):EZ L i r:=by
 unfold Kp at h;have am:=Ab L i [123];rcases RS.obind_some h with⟨_,k,h1,h2⟩|⟨e,q,h1,rfl⟩
 ·rw[Option.some.inj h1]at am;rcases RS.obind_some h2 with⟨rs,k2,h3,h4⟩|⟨e,q,h3,rfl⟩
  ·have ar:=KN am.2 h3;rcases RS.obind_some h4 with⟨b,k3,h5,h6⟩|⟨e,q,h5,rfl⟩
   ·have ab:=It ar.2 h5;obtain rfl:=Option.some.inj h6;exact⟨by have:=am.1;have:=ar.1;have:=ab.1;omega,ab.2⟩
   ·exact It ar.2 h5
  ·exact KN am.2 h3
 ·rw[Option.some.inj h1]at am;exact am
theorem SU {L:List Tok} {f i:Nat} {name:List UInt8} {pl:Int} (hf:L.length+1<=f+i):∃r,Kp L f i name pl=some r:=by
 unfold Kp;refine AW ⟨_,rfl⟩ fun _ k h=>?_
 have am:=Ab L i [123];rw[Option.some.inj h]at am;have h1:=am.1;refine AW (Xa (by omega)) fun rs k2 h2=>?_
 have ar:=KN am.2 h2;have h3:=ar.1;exact AW (XZ ar.2 (by omega)) fun b k3 _=>⟨_,rfl⟩
theorem IY (num:Bool) (L:List Tok) (f:Nat) (kw:List UInt8):Oc L f kw (fun i=>Be num L f (i+1)):=
 ⟨fun i r hq h=>by
  have:=FM _ _ _ h;cases r with
  |ok a j=>exact⟨by have:=this.1;omega,this.2⟩
  |bad e p=>exact this,fun i hq hf=>by have:=Bl hq;exact Qr f (i+1) (by omega) (by omega)⟩
theorem GM (L:List Tok) (f:Nat):Oc L f BX (Dz L f):=by
 refine⟨fun i r hq h=>?_,fun i hq hf=>?_⟩
 ·unfold Dz at h;have an:=Ao L (i+1);rcases RS.obind_some h with⟨s,k,h1,h2⟩|⟨e,q,h1,rfl⟩
  ·rw[Option.some.inj h1]at an;have at':=Jo h2;cases r with
   |ok a j=>exact⟨by have:=an.1;have:=at'.1;omega,at'.2⟩
   |bad e p=>exact at'
  ·rw[Option.some.inj h1]at an;exact an
 ·unfold Dz;refine AW ⟨_,rfl⟩ fun s k h=>?_
  have an:=Ao L (i+1);rw[Option.some.inj h]at an;have:=an.1;exact SU (by omega)
theorem Iu (L:List Tok) (f:Nat):Oc L f Ak (fun i=>some (FH L (i+1) (AN L i))):=by
 refine⟨fun i r hq h=>?_,fun i _ _=>⟨_,rfl⟩⟩;obtain rfl:=Option.some.inj h;have:EZ L (i+1) (FH L (i+1) (AN L i)):=by
  unfold FH;exact Aq (BO L _) fun e j he=>(Aq (Ab L j _) fun _ k hk=>FC _ ((Ab L j _).tq hk)).le
 cases hr:FH L (i+1) (AN L i)with
 |ok a j=>rw[hr]at this;exact⟨by have:=this.1;omega,this.2⟩
 |bad e p=>rw[hr]at this;exact this
theorem SV {L:List Tok} {f i:Nat} {r:RS (List Thr)} (hi:i<=L.length) (h:LH L f i=some r):JH L i r:=by
 unfold LH at h;split at h
 ·rcases RS.obind_some h with⟨t,k,h1,h2⟩|⟨e,q,h1,rfl⟩
  ·obtain rfl:=Option.some.inj h2;have:=Jo h1;exact⟨by have:=this.1;omega,this.2⟩
  ·exact Jo h1
 ·obtain rfl:=Option.some.inj h;exact⟨Nat.le_refl _,hi⟩
theorem QAO {L:List Tok} {f i:Nat} (hf:L.length+1<=f+i):∃r,LH L f i=some r:=by
 unfold LH;split
 ·exact AW (SU (by omega)) fun t k _=>⟨_,rfl⟩
 ·exact⟨_,rfl⟩
theorem Xb (L:List Tok):∃r,I8 L (L.length+1)=some r:=by
 unfold I8 UC YR UD Nh PQ;refine AW (Hk (IY true L _ _) _ 0 (Nat.le_refl _) (by omega) (by omega)) fun ls i1 h1=>?_
 have a1:=GL (IY true L (L.length+1) _) _ _ _ (by omega) h1;refine AW (Hk (IY true L _ _) _ i1 (Nat.le_refl _) a1.2 (by omega)) fun vs i2 h2=>?_
 have a2:=GL (IY true L (L.length+1) _) _ _ _ a1.2 h2;refine AW (Hk (IY false L _ _) _ i2 (Nat.le_refl _) a2.2 (by omega)) fun ks i3 h3=>?_
 have a3:=GL (IY false L (L.length+1) _) _ _ _ a2.2 h3;refine AW (Hk (GM L _) _ i3 (Nat.le_refl _) a3.2 (by omega)) fun ts i4 h4=>?_
 have a4:=GL (GM L (L.length+1)) _ _ _ a3.2 h4;refine AW (QAO (by omega)) fun rs i5 h5=>?_
 have a5:=SV a4.2 h5;exact AW (Hk (Iu L _) _ i5 (Nat.le_refl _) a5.2 (by omega)) fun cs i6 _=>⟨_,rfl⟩
theorem QEb (x:Ex) (h:x.ok):(GF x).ok:=by
 induction x with
 |leaf a=>exact h
 |un a x ih=>exact⟨h.1,ih h.2⟩
 |bin a x y h1 h2=>exact⟨h.1,h1 h.2.1,h2 h.2.2⟩
theorem QCQ {a:Nod} (h:CW a=true):CW (bareN a)=true:=by
 obtain⟨a1,a2,a3,a4⟩:=a;unfold CW at h⊢;simp only[Bool.and_eq_true]at h;simp only[bareN,Bool.and_eq_true];exact⟨⟨rfl,rfl⟩,h.2⟩
theorem LL {L:List Nod} (h:Bm L=true):Bm (L.map bareN)=true:=by
 obtain⟨x,_,ho,rfl,h1,h2,h3⟩:=MB h;rw[<-Gk,WW (QEb x ho),IS,IR,Gk];rw[Bt]at h1;simp only[Bool.and_eq_true,decide_eq_true_eq,List.all_map,List.all_eq_true,Function.comp]at h2⊢;exact⟨⟨h1,fun a ha=>QCQ (h2 a ha)⟩,h3⟩
theorem QAP {s:Stm} (h:EY s=true):EY (bareS s)=true:=by
 obtain⟨x1,x2,x3,x4,x5,x6,x7,x8,x9⟩:=s;simp only[bareS];unfold EY at h⊢;simp only[Bool.and_eq_true]at h⊢;obtain⟨⟨⟨⟨⟨⟨⟨⟨a1,a2⟩,a3⟩,a4⟩,a5⟩,a6⟩,a7⟩,a8⟩,a9⟩:=h;refine⟨⟨⟨⟨⟨⟨⟨⟨a1,a2⟩,rfl⟩,rfl⟩,a5⟩,a6⟩,?_⟩,?_⟩,a9⟩
 ·split at a7
  ·rename_i hc;rw[if_pos hc];exact LL a7
  ·rename_i hc;rw[if_neg hc];simpa using a7
 ·split at a8
  ·rename_i hc;rw[if_pos hc];exact LL a8
  ·rename_i hc;rw[if_neg hc];simpa using a8
theorem QAQ {b:Bk} (h:b.fit):(GI b).fit:=by
 induction b with
 |nil=>trivial
 |cons s b e r h1 h2 h3=>
  obtain⟨a1,a2,a3,a4,a5,a6,a7⟩:=h;refine⟨?_,?_,?_,?_,h1 a5,h2 a6,h3 a7⟩
  ·rw[FG];exact a1
  ·rw[FG];exact a2
  ·rw[FG];exact a3
  ·rw[FG];exact a4
theorem QAR (b:Bk):∀l,(GI b).brk l=b.brk l:=by
 induction b with
 |nil=>intro l;rfl
 |cons s b e r h1 h2 h3=>
  intro l;simp only[GI,Bk.brk,h1,h2,h3];rfl
theorem Vp {L:List Stm} (h:CP L=true):CP (L.map bareS)=true:=by
 obtain⟨b,rfl,⟨hf,hg⟩,h1,h2,h3,_⟩:=Dq h;rw[<-KI];refine VF ⟨QAQ hf,?_⟩ (by rw[FG];exact h1) (by rw[QAR];exact h2) (by rw[XR];exact h3);rw[KI];simp only[List.all_map,List.all_eq_true,Function.comp]at hg⊢;exact fun s hs=>QAP (hg s hs)
theorem Qs {m:Int} {c:Cel} (h:A9 m c=true):A9 m (bareCel c)=true:=by
 unfold A9 at h⊢;simp only[Bool.and_eq_true]at h;simp only[bareCel,Bool.and_eq_true];exact⟨h.1,rfl⟩
theorem Vq {b:Bool} {t:Thr} (h:Bv b t=true):Bv b (CJ t)=true:=by
 unfold Bv at h⊢;simp only[Bool.and_eq_true]at h;simp only[CJ,Bool.and_eq_true];exact⟨⟨⟨h.1.1.1,rfl⟩,Vp h.1.2⟩,h.2⟩
theorem QCR {c:Clm} (h:Eo c=true):Eo (EU c)=true:=by
 unfold Eo at h⊢;simp only[Bool.and_eq_true]at h;simp only[EU,Bool.and_eq_true];exact⟨rfl,LL h.2⟩
theorem Iw {α:Type} {q:α->Bool} {g:α->α} (h:∀a,q a=true->q (g a)=true) {l:List α} (hl:l.all q=true):(l.map g).all q=true:=by
 simp only[List.all_map,List.all_eq_true,Function.comp]at hl⊢;exact fun a ha=>h a (hl a ha)
theorem QAS {l:List Cel} (h:EJ l=true):EJ (l.map bareCel)=true:=by
 unfold EJ at h⊢;simp only[Bool.and_eq_true]at h⊢;exact⟨by simpa using h.1,Iw (q:=A9 BW) (fun _=>Qs) h.2⟩
theorem Xc {p:Prg} (h:BH p=true):BH (Dv p)=true:=by
 unfold BH at h⊢;simp only[Bool.and_eq_true]at h;simp only[Dv,Bool.and_eq_true];obtain⟨⟨⟨⟨⟨⟨a1,a2⟩,a3⟩,a4⟩,a5⟩,a6⟩,a7⟩:=h;exact⟨⟨⟨⟨⟨⟨Iw (q:=EJ) (fun _=>QAS) a1,Iw (q:=Eo) (fun _=>QCR) a2⟩,Iw (q:=A9 BW) (fun _=>Qs) a3⟩,Iw (q:=A9 0) (fun _=>Qs) a4⟩,Iw (q:=Bv true) (fun _=>Vq) a5⟩,Iw (q:=Bv false) (fun _=>Vq) a6⟩,by simpa using a7⟩
theorem Jp {ks ks':List (List UInt8)} {R:List Tok} (hs:∀k∈ks,k∈ks') (hR:Bi ks R):Bi ks' R:=hR.imp id (fun⟨k,hk,T,e⟩=>⟨k,hs k hk,T,e⟩)
theorem QAT {p:Prg} (h:BH p=true) {T S:List Tok} (hT:T.map Tok.bare=Hy p++S) {K4 K5 K6 KS:List (List UInt8)}
  (f4:Bi K4 (p.threads.flatMap CU++(p.recs.flatMap D7++(p.claims.flatMap BC++S)))) (k4:DG∉K4/\F7∉K4/\Cf∉K4)
  (f5:Bi K5 (p.recs.flatMap D7++(p.claims.flatMap BC++S))) (k5:BX∉K5)
  (f6:Bi K6 (p.claims.flatMap BC++S)) (k6:Az∉K6) (fS:Bi KS S) (kS:Ak∉KS):
  ∃p' j,I8 T (T.length+1)=some (OY T j p')/\Dv p'=Dv p/\Ad T j S/\j<=T.length:=by
 obtain⟨h1,h2,h3,h4,h5,h6,h7⟩:=LK h;have hF:Ad T 0 (Hy p++S):=by unfold Ad;rw[List.drop_zero,hT]
 unfold Hy at hF;rw[Lo,Lo,List.append_assoc,List.append_assoc,List.append_assoc,List.append_assoc,List.append_assoc]at hF;rw[List.all_eq_true]at h1 h2 h5 h6;have f3:Bi (Cf::K4) ((if p.locks.isEmpty then[]else[p.locks]).flatMap (Da Cf)++(p.threads.flatMap CU++(p.recs.flatMap D7++(p.claims.flatMap BC++S)))):=Ei (DV (k:=Cf) (by simp) (fun _=>⟨_,rfl⟩) _) (Jp (by simp+contextual) f4)
 have f2:Bi (F7::Cf::K4) ((if p.vols.isEmpty then[]else[p.vols]).flatMap (Da F7)++((if p.locks.isEmpty then[]else[p.locks]).flatMap (Da Cf)++(p.threads.flatMap CU++(p.recs.flatMap D7++(p.claims.flatMap BC++S))))):=Ei (DV (k:=F7) (by simp) (fun _=>⟨_,rfl⟩) _) (Jp (fun k hk=>List.mem_cons_of_mem _ hk) f3);have n2:DG∉F7::Cf::K4:=by
  intro hm;rcases List.mem_cons.1 hm with e|hm
  ·exact absurd e (by decide)
  ·rcases List.mem_cons.1 hm with e|hm
   ·exact absurd e (by decide)
   ·exact k4.1 hm
 have n3:F7∉Cf::K4:=by
  intro hm;rcases List.mem_cons.1 hm with e|hm
  ·exact absurd e (by decide)
  ·exact k4.2.1 hm
 obtain⟨ls,i1,a1,a2,a3,a4,a5⟩:=DW (kw:=DG) (p:=fun i=>Be true T (T.length+1) (i+1)) (g:=fun l:List Cel=>l.map bareCel) (toks:=Da DG) p.lines (fun l hl i R hF hi=>by
  have hh:=h1 l hl;unfold EJ at hh;rw[Bool.and_eq_true]at hh;have hne:l≠[]:=by intro e;rw[e]at hh;simp at hh
  exact Gs hne hh.2 (.inl rfl) hF (by omega)) 0 (T.length+1) _ hF (fun j hj=>EL f2 n2 hj) (by omega) (by omega)
 obtain⟨vs,i2,b1,b2,b3,b4,b5⟩:=DW (kw:=F7) (p:=fun i=>Be true T (T.length+1) (i+1)) (g:=fun l:List Cel=>l.map bareCel) (toks:=Da F7) (if p.vols.isEmpty then[]else[p.vols]) (fun l hl i R hF hi=>by
  split at hl
  ·cases hl
  ·rename_i he
   simp at hl;subst hl;exact Gs (fun e=>he (by rw[e];rfl)) h3 (.inl rfl) hF (by omega)) i1 (T.length+1) _ a3 (fun j hj=>EL f3 n3 hj) (by omega) a5
 obtain⟨ks,i3,c1,c2,c3,c4,c5⟩:=DW (kw:=Cf) (p:=fun i=>Be false T (T.length+1) (i+1)) (g:=fun l:List Cel=>l.map bareCel) (toks:=Da Cf) (if p.locks.isEmpty then[]else[p.locks]) (fun l hl i R hF hi=>by
  split at hl
  ·cases hl
  ·rename_i he
   simp at hl;subst hl;rw[List.all_eq_true]at h4;exact Gs (fun e=>he (by rw[e];rfl)) (by rw[List.all_eq_true];exact fun c hc=>Is (h4 c hc)) (.inr fun c hc=>by have:=Ln (h4 c hc);omega) hF (by omega)) i2 (T.length+1) _ b3 (fun j hj=>EL f4 k4.2.2 hj) (by omega) b5
 obtain⟨ts,i4,d1,d2,d3,d4,d5⟩:=DW (kw:=BX) (p:=Dz T (T.length+1)) (g:=CJ) (toks:=CU) p.threads (fun t ht i R hF hi=>O9 (h5 t ht) hF (by omega)) i3 (T.length+1) _ c3 (fun j hj=>EL f5 k5 hj) (by omega) c5;have hrec:∃rs i5,LH T (T.length+1) i4=some (.ok rs i5)/\rs.map CJ=p.recs.map CJ/\Ad T i5 (p.claims.flatMap BC++S)/\i4<=i5/\i5<=T.length:=by
  match hp:p.recs,h7 with
  |[],_=>
   rw[hp]at d3;rw[List.flatMap_nil,List.nil_append]at d3;refine⟨[],i4,?_,rfl,d3,Nat.le_refl _,d5⟩;unfold LH;rw[if_neg (by rw[EL f6 k6 d3];simp)]
  |[t],_=>
   rw[hp]at d3;rw[List.flatMap_cons,List.flatMap_nil,List.append_nil]at d3;obtain⟨t',j,r1,r2,r3,r4,r5⟩:=Vo (h6 t (by rw[hp];simp)) d3 (f:=T.length+1) (by omega);exact⟨[t'],j,r1,by simp[r2],r3,by omega,r5⟩
  |a::b::l,h7=>simp at h7
 obtain⟨rs,i5,e1,e2,e3,e4,e5⟩:=hrec;obtain⟨cs,i6,g1,g2,g3,g4,g5⟩:=DW (kw:=Ak) (p:=fun i=>some (FH T (i+1) (AN T i))) (g:=EU) (toks:=BC) p.claims (fun c hc i R hF hi=>Qp (h2 c hc) hF) i5 (T.length+1) S e3 (fun j hj=>EL fS kS hj) (by omega) e5;refine⟨⟨ls,vs.flatten,ks.flatten,ts,rs,cs⟩,i6,?_,?_,g3,g5⟩
 ·unfold I8 UC YR UD Nh PQ;rw[a1,RS.obind_ok,b1,RS.obind_ok,c1,RS.obind_ok,d1,RS.obind_ok,e1,RS.obind_ok,g1,RS.obind_ok]
 ·unfold Dv;simp only[Prg.mk.injEq];exact⟨a2,II b2,II c2,d2,e2,g2⟩
theorem QEc {T T1 T2 S:List Tok} {j:Nat} (h:Ad T j S) (hT:T=T1++T2) (hl:T2.length=S.length) (hne:S≠[]):j=T1.length:=by
 have h1:=congrArg List.length h;rw[List.length_drop,List.length_map]at h1;have h2:0<S.length:=List.length_pos_iff.2 hne;have h3:T.length=T1.length+T2.length:=by rw[hT,List.length_append]
 omega
theorem QAU {T1 T2:List Tok} {t:Tok}:AN (T1++t::T2) (T1.length:Nat)=t.pl:=by
 unfold AN;rw[if_pos (by omega)];simp
theorem SX {p:Prg} (h:BH p=true) {s:List UInt8} {T1 R:List Tok} {t:Tok} (e1:T1.map Tok.bare=Hy p) (e2:AV s 0=.fine (T1++t::R)) (hl:s.length<=4000) {K4 K5 K6 KS:List (List UInt8)}
  (f4:Bi K4 (p.threads.flatMap CU++(p.recs.flatMap D7++(p.claims.flatMap BC++(t::R).map Tok.bare)))) (k4:DG∉K4/\F7∉K4/\Cf∉K4)
  (f5:Bi K5 (p.recs.flatMap D7++(p.claims.flatMap BC++(t::R).map Tok.bare))) (k5:BX∉K5)
  (f6:Bi K6 (p.claims.flatMap BC++(t::R).map Tok.bare)) (k6:Az∉K6) (fS:Bi KS ((t::R).map Tok.bare)) (kS:Ak∉KS):
  EN s=⟨noPg,5,t.pl⟩:=by
 obtain⟨p',j,a1,_,a3,a4⟩:=QAT h (T:=T1++t::R) (S:=(t::R).map Tok.bare) (by rw[List.map_append,e1]) f4 k4 f5 k5 f6 k6 fS kS;have hj:=QEc (T2:=t::R) a3 rfl (by simp) (by simp);unfold EN;rw[if_neg (by omega),e2];show(if(0:Int)=0 then O8 ((I8 (T1++t::R) ((T1++t::R).length+1)).getD (.bad 0 0))else _)=_;rw[if_pos rfl,a1];unfold OY;rw[if_pos (by rw[hj];simp)];show O8 (badR _ _ _)=_;unfold badR;rw[hj];simp[O8,QAU]
def Qu:List UInt8:=[108,105,110,101,32,122,59]
def Es:List UInt8:=[97,108,119,97,121,115,32,122,59]
def KO:List UInt8:=[32,116,104,114,101,97,100,32,122,32,123,32,125]
theorem QF9 (a:Nat):AV Qu a=.fine [⟨1,DG,0,a⟩,⟨1,[122],0,a+5⟩,⟨3,[59],0,a+6⟩]:=by
 have h:AV Qu 0=.fine [⟨1,DG,0,0⟩,⟨1,[122],0,5⟩,⟨3,[59],0,6⟩]:=by decide+kernel
 have:=N8 a Qu 0;rw[h,Nat.zero_add]at this;rw[this];simp[Found.move,Found.fine,Tok.move,Nat.add_comm]
theorem QCS (a:Nat):AV Es a=.fine [⟨1,Ak,0,a⟩,⟨1,[122],0,a+7⟩,⟨3,[59],0,a+8⟩]:=by
 have h:AV Es 0=.fine [⟨1,Ak,0,0⟩,⟨1,[122],0,7⟩,⟨3,[59],0,8⟩]:=by decide+kernel
 have:=N8 a Es 0;rw[h,Nat.zero_add]at this;rw[this];simp[Found.move,Found.fine,Tok.move,Nat.add_comm]
theorem QGA (a:Nat):AV (Es++KO) a=.fine ([⟨1,Ak,0,a⟩,⟨1,[122],0,a+7⟩,⟨3,[59],0,a+8⟩]++[⟨1,BX,0,a+10⟩,⟨1,[122],0,a+17⟩,⟨3,[123],0,a+19⟩,⟨3,[125],0,a+21⟩]):=by
 have h:AV (Es++KO) 0=.fine [⟨1,Ak,0,0⟩,⟨1,[122],0,7⟩,⟨3,[59],0,8⟩,⟨1,BX,0,10⟩,⟨1,[122],0,17⟩,⟨3,[123],0,19⟩,⟨3,[125],0,21⟩]:=by decide+kernel
 have:=N8 a (Es++KO) 0;rw[h,Nat.zero_add]at this;rw[this];simp[Found.move,Found.fine,Tok.move,Nat.add_comm]
theorem Vr {α:Type} {g:α->List Tok} {k:List UInt8} (hg:∀a,∃T,g a=wd k::T) {l:List α} (hl:l≠[]) (R:List Tok):Bi [k] (l.flatMap g++R):=by
 cases l with
 |nil=>exact absurd rfl hl
 |cons a l=>
  obtain⟨T,e⟩:=hg a;exact .inr ⟨k,by simp,T++(l.flatMap g++R),by simp[e]⟩
theorem Xd {p:Prg} (h:BH p=true) (hn:p.threads≠[]) (hl:(BQ p).length<=3000):EN (BQ p++Qu)=⟨noPg,5,(BQ p).length⟩:=by
 obtain⟨T1,e1,e2⟩:=UI h Qu 0;rw[Nat.zero_add,QF9,Kt]at e2;have fS:Bi [DG] ([(⟨1,DG,0,(BQ p).length⟩:Tok),⟨1,[122],0,(BQ p).length+5⟩,⟨3,[59],0,(BQ p).length+6⟩].map Tok.bare):=.inr ⟨DG,by simp,_,rfl⟩;have f6:Bi [Ak,DG] (p.claims.flatMap BC++[(⟨1,DG,0,(BQ p).length⟩:Tok),⟨1,[122],0,(BQ p).length+5⟩,⟨3,[59],0,(BQ p).length+6⟩].map Tok.bare):=Ei (DV (k:=Ak) (by simp) (fun _=>⟨_,rfl⟩) _) (Jp (by simp) fS)
 have f5:=Ei (ks:=[Az,Ak,DG]) (DV (k:=Az) (g:=D7) (by simp) (fun _=>⟨_,rfl⟩) p.recs) (Jp (by simp) f6);exact SX h e1 e2 (by rw[List.length_append];have:Qu.length=7:=rfl;omega) (Vr (fun _=>⟨_,rfl⟩) hn _) (by decide) f5 (by decide) f6 (by decide) fS (by decide)
def QAV:Clm:=⟨[⟨2,0,[122],0⟩],0⟩
def Nn (p:Prg) (c:Clm):Prg:={p with claims:=p.claims++[c]}
theorem Qv {p:Prg} (h:BH p=true) {c:Clm} (hc:Eo c=true):BH (Nn p c)=true:=by
 unfold BH at h⊢;simp only[Nn,List.all_append,List.all_cons,List.all_nil,hc,Bool.and_true];exact h
theorem SY (p:Prg) (c:Clm):Hy (Nn p c)=Hy p++BC c:=by simp[Hy,Nn]
theorem QFf:Eo QAV=true:=by decide+kernel
theorem QCT:BC QAV=[wd Ak,wd [122],sg 59]:=by decide+kernel
theorem Vs {p:Prg} (h:BH p=true) (hl:(BQ p).length<=3000):∃q,EN (BQ p++Es)=⟨q,0,0⟩:=by
 obtain⟨T1,e1,e2⟩:=UI h Es 0;rw[Nat.zero_add,QCS,Kt]at e2;have e3:(T1++[(⟨1,Ak,0,(BQ p).length⟩:Tok),⟨1,[122],0,(BQ p).length+7⟩,⟨3,[59],0,(BQ p).length+8⟩]).map Tok.bare=Hy (Nn p QAV):=by rw[SY,QCT,List.map_append,e1];rfl
 generalize T1++[(⟨1,Ak,0,(BQ p).length⟩:Tok),⟨1,[122],0,(BQ p).length+7⟩,⟨3,[59],0,(BQ p).length+8⟩]=T at e2 e3;obtain⟨q,j,a1,_⟩:=QAN (Qv h QFf) e3;refine⟨q,?_⟩;unfold EN;rw[if_neg (by rw[List.length_append];have:Es.length=9:=rfl;omega),e2];show(if(0:Int)=0 then O8 ((I8 T (T.length+1)).getD (.bad 0 0))else _)=_;rw[if_pos rfl,a1];rfl
theorem UJ {p:Prg} (h:BH p=true) (hl:(BQ p).length<=3000):EN (BQ p++(Es++KO))=⟨noPg,5,(BQ p).length+10⟩:=by
 obtain⟨T1,e1,e2⟩:=UI h (Es++KO) 0;rw[Nat.zero_add,QGA,Kt]at e2;have e2:=e2.trans (congrArg Found.fine (List.append_assoc T1 _ _).symm);have fS:Bi [BX] ([(⟨1,BX,0,(BQ p).length+10⟩:Tok),⟨1,[122],0,(BQ p).length+17⟩,⟨3,[123],0,(BQ p).length+19⟩,⟨3,[125],0,(BQ p).length+21⟩].map Tok.bare):=.inr ⟨BX,by simp,_,rfl⟩
 have f6:=Vr (g:=BC) (k:=Ak) (fun _=>⟨_,rfl⟩) (l:=(Nn p QAV).claims) (by simp[Nn]) ([(⟨1,BX,0,(BQ p).length+10⟩:Tok),⟨1,[122],0,(BQ p).length+17⟩,⟨3,[123],0,(BQ p).length+19⟩,⟨3,[125],0,(BQ p).length+21⟩].map Tok.bare);have f5:=Ei (ks:=[Az,Ak]) (DV (k:=Az) (g:=D7) (by simp) (fun _=>⟨_,rfl⟩) (Nn p QAV).recs) (Jp (by simp) f6);have f4:=Ei (ks:=[BX,Az,Ak]) (DV (k:=BX) (g:=CU) (by simp) (fun _=>⟨_,rfl⟩) (Nn p QAV).threads) (Jp (by simp) f5)
 exact SX (Qv h QFf) (by rw[List.map_append,e1,SY,QCT];rfl) e2 (by rw[List.length_append];have:(Es++KO).length=22:=rfl;omega) f4 (by decide) f5 (by decide) f6 (by decide) fS (by decide)
theorem SZ {p:Prg} (h:BH p=true):JJ p=BQ p:=by unfold JJ;rw[if_pos h]
structure EW (L M:List Tok) (i:Nat):Prop where
 len:L.length=M.length
 same:∀j:Nat,i<=j->L[j]?=M[j]?
 last:L.getLast?=M.getLast?
theorem EW.on {L M:List Tok} {i j:Nat} (h:EW L M i) (hij:i<=j):EW L M j:=⟨h.len,fun k hk=>h.same k (by omega),h.last⟩
theorem EW.refl (L:List Tok) (i:Nat):EW L L i:=⟨rfl,fun _ _=>rfl,rfl⟩
theorem EW.isB {L M:List Tok} {i:Nat} (h:EW L M i) (s:List UInt8):isB L i s=isB M i s:=by
 unfold YthfkpalfopdmhaaGreatDoor.isB;rw[Int.toNat_natCast,h.same i (Nat.le_refl _)]
theorem EW.place {L M:List Tok} {i:Nat} (h:EW L M i):AN L i=AN M i:=by
 unfold AN;rw[Int.toNat_natCast,h.same i (Nat.le_refl _),h.last]
theorem EW.plAt {L M:List Tok} {i:Nat} (h:EW L M i):plAt L i=plAt M i:=by
 unfold YthfkpalfopdmhaaGreatDoor.plAt;rw[h.same i (Nat.le_refl _)]
theorem EW.sign {L M:List Tok} {i:Nat} (h:EW L M i) (b:Nat):Aw L b i=Aw M b i:=by
 unfold Aw;rw[show(fun op=>Em op==(b:Int)&&YthfkpalfopdmhaaGreatDoor.isB L i (Ar op))=(fun op=>Em op==(b:Int)&&YthfkpalfopdmhaaGreatDoor.isB M i (Ar op))from funext fun op=>by rw[h.isB]]
theorem EW.signN {L M:List Tok} {i:Nat} (h:EW L M i) (b:Nat):signN L b i=signN M b i:=by
 unfold YthfkpalfopdmhaaGreatDoor.signN;rw[h.sign,h.plAt]
theorem EW.leaf {L M:List Tok} {i:Nat} (h:EW L M i):Fe L i=Fe M i:=by
 unfold Fe;rw[h.same i (Nat.le_refl _)]
theorem EW.wrong {L M:List Tok} {i:Nat} (h:EW L M i) (j:Nat):Ic L j=Ic M j:=by
 unfold Ic;rw[h.len]
theorem QEf {L M:List Tok} {i:Nat} (h:EW L M i):∀f:Nat,(∀b k d,i<=k->1<=b->b<=6->Ah L f b k d=Ah M f b k d)/\(∀b x k d,i<=k->1<=b->b<=5->Dw L f b x k d=Dw M f b x k d)/\(∀k d,i<=k->BU L f k d=BU M f k d):=by
 intro f
 induction f with
 |zero=>exact⟨fun b k d _ _ _=>by simp[Ah],fun b x k d _ _ _=>by simp[Dw],fun k d _=>by simp[BU]⟩
 |succ f ih=>
  obtain⟨ic,il,is⟩:=ih;refine⟨fun b k d hk hb hb2=>?_,fun b x k d hk hb hb2=>?_,fun k d hk=>?_⟩
  ·rw[Ah,Ah];split
   ·exact is _ _ hk
   ·rw[<-ic (b+1) k d hk (by omega) (by omega)];cases hc:Ah L f (b+1) k d with
    |none=>rfl
    |some r=>
     cases r with
     |ok x j=>
      have hf:=(Ff L f).1 _ _ _ _ (by omega) (by omega) hc;have:=hf.1;exact il _ _ _ _ (by omega) hb (by omega)
     |bad e j=>rfl
  ·rw[Dw,Dw,(h.on hk).sign,(h.on hk).signN,<-ic (b+1) (k+1) d (by omega) (by omega) (by omega)];split
   ·rfl
   ·cases hc:Ah L f (b+1) (k+1) d with
    |none=>rfl
    |some r=>
     cases r with
     |ok y j=>
      have hf:=(Ff L f).1 _ _ _ _ (by omega) (by omega) hc;have:=hf.1;simp only;split
      ·rfl
      ·exact il _ _ _ _ (by omega) hb (by omega)
     |bad e j=>rfl
  ·rw[BU,BU,(h.on hk).isB,(h.on hk).sign,(h.on hk).signN,(h.on hk).leaf,<-ic 1 (k+1) (d+1) (by omega) (by omega) (by omega),<-is (k+1) (d+1) (by omega)];split
   ·split
    ·rfl
    ·cases hc:Ah L f 1 (k+1) (d+1)with
     |none=>rfl
     |some r=>
      cases r with
      |ok y j=>
       have hf:=(Ff L f).1 _ _ _ _ (by omega) (by omega) hc;have:=hf.1;simp only;rw[(h.on (show i<=j by omega)).isB,h.wrong]
      |bad e j=>rfl
   ·rfl
theorem EW.parse {L M:List Tok} {i:Nat} (h:EW L M i):GP L i=GP M i:=by
 unfold GP;rw[h.len,(QEf h _).1 1 i 0 (Nat.le_refl _) (by omega) (by omega)]
theorem EW.expr {L M:List Tok} {i:Nat} (h:EW L M i):EA L i=EA M i:=by
 rw[JX,JX,<-h.parse];have hf:=Kv L i;cases hp:GP L i with
 |ok x j=>unfold VO;rw[h.place]
 |bad e j=>
  rw[hp]at hf;show(⟨[],0,e,AN L j⟩:Parsed)=⟨[],0,e,AN M j⟩
  rw[(h.on hf.2.1).place]
theorem EW.bad {α:Type} {L M:List Tok} {i:Nat} (h:EW L M i) (e:Int):(badR L i e:RS α)=badR M i e:=by
 unfold badR;rw[h.len,h.place]
theorem EW.must {L M:List Tok} {i:Nat} (h:EW L M i) (s:List UInt8):Bo L i s=Bo M i s:=by
 unfold Bo;rw[h.isB,h.bad]
theorem EW.name {L M:List Tok} {i:Nat} (h:EW L M i):Bd L i=Bd M i:=by
 unfold Bd nameAt;rw[h.same i (Nat.le_refl _),h.bad]
theorem EW.exprP {L M:List Tok} {i:Nat} (h:EW L M i):exprP L i=exprP M i:=by
 unfold YthfkpalfopdmhaaGreatDoor.exprP;rw[h.expr]
theorem EW.times {L M:List Tok} {i:Nat} (h:EW L M i):EQ L i=EQ M i:=by
 unfold EQ;rw[h.same i (Nat.le_refl _),h.bad,h.bad]
theorem EW.kind {L M:List Tok} {i:Nat} (h:EW L M i):Aj L i=Aj M i:=by
 unfold Aj;rw[show(fun k=>decide (2<=k)&&YthfkpalfopdmhaaGreatDoor.isB L i (CM.getD k []))=(fun k=>decide (2<=k)&&YthfkpalfopdmhaaGreatDoor.isB M i (CM.getD k []))from funext fun k=>by rw[h.isB]]
theorem By {α β:Type} {L:List Tok} {i:Nat} {r r':RS α} {k k':α->Nat->RS β} (ha:EZ L i r) (h:r=r') (hk:∀a j,i<=j->k a j=k' a j):r.bind k=r'.bind k':=by
 subst h;cases r with
 |ok a j=>exact hk a j (Nat.le_of_lt ha.1)
 |bad e p=>rfl
theorem BI {α β:Type} {o o':Option (RS α)} {k k':α->Nat->Option (RS β)} (h:o=o') (hk:∀a j,o=some (.ok a j)->k a j=k' a j):RS.obind o k=RS.obind o' k':=by
 subst h;rcases o with _|⟨a,j⟩|⟨e,p⟩
 ·rfl
 ·exact hk a j rfl
 ·rfl
theorem EW.plain {L M:List Tok} {i:Nat} (h:EW L M i) (k:Nat) (pl:Int):Di L k pl i=Di M k pl i:=by
 unfold Di
 repeat' split
 ·exact By (Ao L i) h.name fun r j hj=>By (Ab L j _) ((h.on hj).must _) fun _ j2 hj2=>By (BO L j2) (h.on (Nat.le_trans hj hj2)).exprP fun _ _ _=>rfl
 ·exact By (Ao L i) h.name fun r j hj=>By (Ab L j _) ((h.on hj).must _) fun _ j2 hj2=>By (Ao L j2) (h.on (Nat.le_trans hj hj2)).name fun _ _ _=>rfl
 ·exact By (Ao L i) h.name fun r j hj=>By (Ab L j _) ((h.on hj).must _) fun _ j2 hj2=>By (BO L j2) (h.on (Nat.le_trans hj hj2)).exprP fun _ _ _=>rfl
 ·exact By (Ao L i) h.name fun r j hj=>By (Ab L j _) ((h.on hj).must _) fun _ j2 hj2=>By (Ao L j2) (h.on (Nat.le_trans hj hj2)).name fun _ j3 hj3=>
   By (Ab L j3 _) ((h.on (by omega)).must _) fun _ j4 hj4=>By (BO L j4) (h.on (by omega)).exprP fun _ j5 hj5=>By (Ab L j5 _) ((h.on (by omega)).must _) fun _ j6 hj6=>By (BO L j6) (h.on (by omega)).exprP fun _ _ _=>rfl
 ·exact By (Ao L i) h.name fun _ _ _=>rfl
 ·exact By (BO L i) h.exprP fun _ _ _=>rfl
 ·exact By (I3 L i) h.times fun _ _ _=>rfl
 ·rfl
def UL (L M:List Tok) (i:Nat) (f:Nat):Prop:=∀k d l,i<=k->k<=L.length->C7 L f k d l=C7 M f k d l
theorem Sl {L M:List Tok} {i f:Nat} (h:EW L M i) (hr:UL L M i f) {k d l:Nat} (hk:i<=k):CB (C7 L f) L k d l=CB (C7 M f) M k d l:=by
 unfold CB;rw[(h.on hk).isB,(h.on hk).bad];split
 ·rfl
 ·refine BI (by rw[(h.on hk).must]) fun _ j hj=>?_
  have a:=Ab L k [123];rw[Option.some.inj hj]at a;have a1:=a.1;refine BI (hr _ _ _ (by omega) a.2) fun b j2 hj2=>?_
  have a2:=FT L f _ _ _ _ a.2 hj2;have a3:=a2.1;exact BI (by rw[(h.on (show i<=j2 by omega)).must]) fun _ _ _=>rfl
theorem QCZ {L M:List Tok} {i f:Nat} (h:EW L M i) (hr:UL L M i f) {q k d l:Nat} (hk:i<=k):EF (C7 L f) L q k d l=EF (C7 M f) M q k d l:=by
 unfold EF;rw[(h.on hk).isB,Sl h hr (by omega)]
theorem QEg {L M:List Tok} {i f:Nat} (h:EW L M i) (hr:UL L M i f) {k d l:Nat} (hk:i<=k):G8 (C7 L f) L k d l=G8 (C7 M f) M k d l:=by
 unfold G8;rw[<-(h.on hk).kind,(h.on hk).bad,(h.on hk).place,(h.on (show i<=(if Aj L k=1 then k else k+1) by split<;>omega)).plain];split
 ·rfl
 ·refine BI rfl fun s j hj=>?_
  have a:=Gy L k;unfold Ds at a;rw[(h.on hk).place,(h.on (show i<=(if Aj L k=1 then k else k+1) by split<;>omega)).plain,Option.some.inj hj]at a;have a1:=a.1;split
  ·exact BI (by rw[(h.on (show i<=j by omega)).must]) fun _ _ _=>rfl
  ·refine BI (Sl h hr (by omega)) fun b j2 hj2=>?_
   have a2:=G9 (FT L f) hj2;have a3:=a2.1;exact BI (QCZ h hr (by omega)) fun _ _ _=>rfl
theorem QEh {L M:List Tok} {i:Nat} (h:EW L M i):∀f,UL L M i f:=by
 intro f
 induction f with
 |zero=>intro k d l _ _;rfl
 |succ f ih=>
  intro k d l hk hl;rw[Dk,Dk,(h.on hk).isB];split
  ·rfl
  ·refine BI (QEg h ih hk) fun o j hj=>?_
   have a:=JZ (FT L f) hj;have a1:=a.1;exact BI (ih _ _ _ (by omega) a.2) fun _ _ _=>rfl
theorem Qz {L M:List Tok} {i:Nat} (h:EW L M i) (hi:i<=L.length) {f o:Nat} {p:Int} (hp:AN L o=p):Hi L f i o=RS.obind (C7 M f i 0 0) fun b j=>RS.obind (some (Bo M j [125])) fun _ k=>if 40<b.count then some (.bad 2 p)else some (.ok b.flat k):=by
 unfold Hi;refine BI (QEh h f _ _ _ (Nat.le_refl _) hi) fun b j hj=>?_
 have a:=FT L f _ _ _ _ hi hj;have a1:=a.1;refine BI (by rw[(h.on a1).must]) fun _ k _=>?_
 rw[hp]
theorem UM (L:List Tok) (i:Nat):FD L i=QBs L i (Fa L i 0 0):=by
 unfold FD;rw[if_neg (by omega),Int.toNat_natCast]
theorem YZ {L:List Tok} {i:Nat} {er p:Int} (h:Fa L i 0 0=.bad er p):FD L i=⟨[],0,er,p⟩:=by rw[UM,h];rfl
theorem QEi {L:List Tok} {i:Nat} {t:Bk} {j:Nat} (h:Fa L i 0 0=.ok t j) (hc:40<t.count):FD L i=⟨[],0,2,AN L i⟩:=by rw[UM,h];show(if 40<t.count then _ else _)=_;rw[if_pos hc]
theorem QGC {L:List Tok} {i:Nat} {t:Bk} {j:Nat} (h:Fa L i 0 0=.ok t j) (hc:¬40<t.count):FD L i=⟨t.flat,j,0,0⟩:=by rw[UM,h];show(if 40<t.count then _ else _)=_;rw[if_neg hc]
theorem Lq {L M:List Tok} {k o f:Nat} (h:EW L M (k+1)) (hb:isB M k [123]=true) (hp:AN M k=AN L o) {r:RS (List Stm)} (hr:Hi L f (k+1) o=some r):
  (∃b m,r=.ok b m/\FD M k=⟨b,m,0,0⟩)\/(∃e p,r=.bad e p/\e≠0/\FD M k=⟨[],0,e,p⟩):=by
 have hkM:=Bl hb;have hkL:k+1<=L.length:=by rw[h.len];omega
 have hne:=It hkL hr;rw[Qz h hkL rfl]at hr;have hm:Bo M k [123]=.ok () (k+1):=by unfold Bo;rw[if_pos hb]
 have hblk:CB (C7 M f) M k 0 0=RS.obind (C7 M f (k+1) 0 0) fun b j=>RS.obind (some (Bo M j [125])) fun _ j=>some (.ok b j):=by
  unfold CB;rw[if_neg (by omega),hm];rfl
 rcases RS.obind_some hr with⟨b,j,h1,h2⟩|⟨e,p,h1,rfl⟩
 ·rcases RS.obind_some h2 with⟨_,m,h3,h4⟩|⟨e,p,h3,rfl⟩
  ·have hB:Fa M k 0 0=.ok b m:=ON (f:=f) (by rw[hblk,h1,RS.obind_ok,h3];rfl);split at h4
   ·rename_i hc
    obtain rfl:=Option.some.inj h4;exact .inr ⟨2,_,rfl,by decide,by rw[QEi hB hc,hp]⟩
   ·rename_i hc
    obtain rfl:=Option.some.inj h4;exact .inl ⟨_,m,rfl,QGC hB hc⟩
  ·have hB:Fa M k 0 0=.bad e p:=ON (f:=f) (by rw[hblk,h1,RS.obind_ok,h3];rfl);exact .inr ⟨e,p,rfl,hne,YZ hB⟩
 ·have hB:Fa M k 0 0=.bad e p:=ON (f:=f) (by rw[hblk,h1];rfl);exact .inr ⟨e,p,rfl,hne,YZ hB⟩
end Go.Proofs.YthfkpalfopdmhaaGreatDoor
namespace Go.Proofs.YthfkpalfopdmhaaGreatDoor
open Go
section
variable {L M:List Tok} {i:Nat}
theorem EW.numAt (h:EW L M i):numAt L i=numAt M i:=by
 unfold YthfkpalfopdmhaaGreatDoor.numAt;rw[h.same i (Nat.le_refl _)]
theorem EW.cel (h:EW L M i) (num:Bool):GW num L i=GW num M i:=by
 unfold GW;refine By (Ao L i) h.name fun s j hj=>?_
 rw[(h.on hj).isB,(h.on (show i<=j+1 by omega)).numAt,(h.on (show i<=j+1 by omega)).bad,h.place]
theorem EW.cels (h:EW L M i) (num:Bool):∀f k,i<=k->Be num L f k=Be num M f k:=by
 intro f
 induction f with
 |zero=>intro k _;rfl
 |succ f ih=>
  intro k hk;unfold Be;refine BI (by rw[(h.on hk).cel]) fun c j hj=>?_
  have a:=IX num L k;rw[Option.some.inj hj]at a;have a1:=a.1;rw[(h.on (show i<=j by omega)).isB];split
  ·exact BI (ih _ (by omega)) fun _ _ _=>rfl
  ·exact BI (by rw[(h.on (show i<=j by omega)).must]) fun _ _ _=>rfl
theorem EW.claim (h:EW L M i) (pl:Int):FH L i pl=FH M i pl:=by
 unfold FH;exact By (BO L i) h.exprP fun e j hj=>By (Ab L j _) ((h.on hj).must _) fun _ _ _=>rfl
theorem EW.rest (h:EW L M i) {o f:Nat} (hi:i<=L.length) (ho:AN L o=AN M o):Hi L f i o=Hi M f i o:=by
 rw[Qz h hi rfl,Qz (L:=M) (M:=M) (EW.refl M i) (by rw[<-h.len];exact hi) rfl,ho]
theorem EW.regs (h:EW L M i) (f:Nat):IC L f i=IC M f i:=by
 unfold IC;rw[h.isB,h.cels false f (i+1) (by omega)]
theorem EW.thr (h:EW L M i) (f:Nat) (name:List UInt8) (pl:Int):Kp L f i name pl=Kp M f i name pl:=by
 unfold Kp;refine BI (by rw[h.must]) fun _ j hj=>?_
 have a:=Ab L i [123];rw[Option.some.inj hj]at a;have a1:=a.1;refine BI ((h.on (show i<=j by omega)).regs f) fun rs k hk=>?_
 have a2:=KN a.2 hk;have a3:=a2.1;exact BI ((h.on (show i<=k by omega)).rest a2.2 h.place) fun _ _ _=>rfl
theorem EW.thread (h:EW L M i) (f:Nat):Dz L f i=Dz M f i:=by
 have hpl:AN L ((i:Int)+1)=AN M ((i:Int)+1):=by simpa using(h.on (show i<=i+1 by omega)).place
 unfold Dz;rw[hpl];refine BI (by rw[(h.on (show i<=i+1 by omega)).name]) fun s j hj=>?_
 have a:=Ao L (i+1);rw[Option.some.inj hj]at a;have a1:=a.1;exact(h.on (show i<=j by omega)).thr f s _
theorem Sm {α:Type} {F:Nat} {kw:List UInt8} {p q:Nat->Option (RS α)} (h:EW L M i) (hp:Oc L F kw p) (hpq:∀k,i<=k->p k=q k):∀f k,i<=k->CC L kw p f k=CC M kw q f k:=by
 intro f
 induction f with
 |zero=>intro k _;rfl
 |succ f ih=>
  intro k hk;unfold CC;rw[(h.on hk).isB];split
  ·rename_i hb
   rw[<-(h.on hk).isB]at hb;refine BI (hpq k hk) fun a j hj=>?_
   have a:=hp.ahead _ _ hb hj;have a1:=a.1;exact BI (ih _ (by omega)) fun _ _ _=>rfl
  ·rfl
theorem EW.recs (h:EW L M i) (f:Nat):LH L f i=LH M f i:=by
 unfold LH;rw[h.isB,h.place];split
 ·exact BI ((h.on (show i<=i+1 by omega)).thr f _ _) fun _ _ _=>rfl
 ·rfl
end
def QCa (L:List Tok) (F i:Nat):Option (RS (List Cel)):=Be true L F (i+1)
def QGD (L:List Tok) (F i:Nat):Option (RS (List Cel)):=Be false L F (i+1)
def Xh (L:List Tok) (i:Nat):Option (RS Clm):=some (FH L (i+1) (AN L i))
def fut5 (L:List Tok) (f i:Nat) (p:Prg):Option (RS Prg):=RS.obind (CC L Ak (Xh L) f i) fun cs j=>some (OY L j {p with claims:=p.claims++cs})
def fut4 (L:List Tok) (F i:Nat) (p:Prg):Option (RS Prg):=RS.obind (LH L F i) fun rs j=>fut5 L F j {p with recs:=p.recs++rs}
def fut3 (L:List Tok) (F f i:Nat) (p:Prg):Option (RS Prg):=RS.obind (CC L BX (Dz L F) f i) fun ts j=>fut4 L F j {p with threads:=p.threads++ts}
def UN (L:List Tok) (F f i:Nat) (p:Prg):Option (RS Prg):=RS.obind (CC L Cf (QGD L F) f i) fun ks j=>fut3 L F F j {p with locks:=p.locks++ks.flatten}
def UO (L:List Tok) (F f i:Nat) (p:Prg):Option (RS Prg):=RS.obind (CC L F7 (QCa L F) f i) fun vs j=>UN L F F j {p with vols:=p.vols++vs.flatten}
def V1 (L:List Tok) (F f i:Nat) (p:Prg):Option (RS Prg):=RS.obind (CC L DG (QCa L F) f i) fun ls j=>UO L F F j {p with lines:=p.lines++ls}
theorem QEj (L:List Tok) (F:Nat):I8 L F=V1 L F F 0 noPg:=rfl
theorem Ix {α β:Type} {L:List Tok} {kw:List UInt8} {p:Nat->Option (RS α)} {f i:Nat} {K:List α->Nat->Option (RS β)} {r:RS β} (h:RS.obind (CC L kw p f i) K=some r) (hb:isB L i kw=true):
  ∃f',f=f'+1/\((∃a j,p i=some (.ok a j)/\RS.obind (CC L kw p f' j) (fun l k=>K (a::l) k)=some r)\/(∃e q,p i=some (.bad e q)/\r=.bad e q)):=by
 cases f with
 |zero=>simp[CC]at h
 |succ f=>
  refine⟨f,rfl,?_⟩;unfold CC at h;rw[if_pos hb]at h;rcases hp:p i with _|⟨a,j⟩|⟨e,q⟩
  ·rw[hp]at h;simp at h
  ·refine .inl ⟨a,j,rfl,?_⟩;rw[hp]at h;simp only[RS.obind_ok]at h;rcases hq:CC L kw p f j with _|⟨l,k⟩|⟨e,q⟩
   ·rw[hq]at h;simp at h
   ·rw[hq]at h;simpa using h
   ·rw[hq]at h;simpa using h
  ·refine .inr ⟨e,q,rfl,?_⟩;rw[hp]at h;simpa using h.symm
theorem Iy {α β:Type} {L:List Tok} {kw:List UInt8} {p:Nat->Option (RS α)} {f i:Nat} {K:List α->Nat->Option (RS β)} {r:RS β} (h:RS.obind (CC L kw p f i) K=some r) (hb:isB L i kw=false):K [] i=some r:=by
 cases f with
 |zero=>simp[CC]at h
 |succ f=>
  unfold CC at h;rw[if_neg (by rw[hb];simp)]at h;simpa using h
section
variable {L:List Tok} {F f i:Nat} {p:Prg} {r:RS Prg}
theorem QAZ (h:V1 L F f i p=some r) (hb:isB L i DG=true):∃f',f=f'+1/\((∃a j,Be true L F (i+1)=some (.ok a j)/\V1 L F f' j {p with lines:=p.lines++[a]}=some r)\/(∃e q,Be true L F (i+1)=some (.bad e q)/\r=.bad e q)):=by
 obtain⟨f',hf,h1⟩:=Ix h hb;refine⟨f',hf,h1.imp (fun⟨a,j,h2,h3⟩=>⟨a,j,h2,?_⟩) id⟩;unfold V1;simpa using h3
theorem QAa (h:V1 L F f i p=some r) (hb:isB L i DG=false):UO L F F i p=some r:=by have:=Iy h hb;simpa using this
theorem QAb (h:UO L F f i p=some r) (hb:isB L i F7=true):∃f',f=f'+1/\((∃a j,Be true L F (i+1)=some (.ok a j)/\UO L F f' j {p with vols:=p.vols++a}=some r)\/(∃e q,Be true L F (i+1)=some (.bad e q)/\r=.bad e q)):=by
 obtain⟨f',hf,h1⟩:=Ix h hb;refine⟨f',hf,h1.imp (fun⟨a,j,h2,h3⟩=>⟨a,j,h2,?_⟩) id⟩;unfold UO;simpa using h3
theorem QAc (h:UO L F f i p=some r) (hb:isB L i F7=false):UN L F F i p=some r:=by have:=Iy h hb;simpa using this
theorem QAd (h:UN L F f i p=some r) (hb:isB L i Cf=true):∃f',f=f'+1/\((∃a j,Be false L F (i+1)=some (.ok a j)/\UN L F f' j {p with locks:=p.locks++a}=some r)\/(∃e q,Be false L F (i+1)=some (.bad e q)/\r=.bad e q)):=by
 obtain⟨f',hf,h1⟩:=Ix h hb;refine⟨f',hf,h1.imp (fun⟨a,j,h2,h3⟩=>⟨a,j,h2,?_⟩) id⟩;unfold UN;simpa using h3
theorem QAe (h:UN L F f i p=some r) (hb:isB L i Cf=false):fut3 L F F i p=some r:=by have:=Iy h hb;simpa using this
theorem QAf (h:fut3 L F f i p=some r) (hb:isB L i BX=true):∃f',f=f'+1/\((∃a j,Dz L F i=some (.ok a j)/\fut3 L F f' j {p with threads:=p.threads++[a]}=some r)\/(∃e q,Dz L F i=some (.bad e q)/\r=.bad e q)):=by
 obtain⟨f',hf,h1⟩:=Ix h hb;refine⟨f',hf,h1.imp (fun⟨a,j,h2,h3⟩=>⟨a,j,h2,?_⟩) id⟩;unfold fut3;simpa using h3
theorem QAg (h:fut3 L F f i p=some r) (hb:isB L i BX=false):fut4 L F i p=some r:=by have:=Iy h hb;simpa using this
theorem QAh (h:fut4 L F i p=some r) (hb:isB L i Az=true):(∃a j,Kp L F (i+1) [] (AN L i)=some (.ok a j)/\fut5 L F j {p with recs:=p.recs++[a]}=some r)\/(∃e q,Kp L F (i+1) [] (AN L i)=some (.bad e q)/\r=.bad e q):=by
 unfold fut4 LH at h;rw[if_pos hb]at h;rcases hp:Kp L F (i+1) [] (AN L i)with _|⟨a,j⟩|⟨e,q⟩
 ·rw[hp]at h;simp at h
 ·rw[hp]at h;exact .inl ⟨a,j,rfl,by simpa using h⟩
 ·rw[hp]at h;exact .inr ⟨e,q,rfl,by simpa using h.symm⟩
theorem QAi (h:fut4 L F i p=some r) (hb:isB L i Az=false):fut5 L F i p=some r:=by
 unfold fut4 LH at h;rw[if_neg (by rw[hb];simp)]at h;simpa using h
theorem QAj (h:fut5 L f i p=some r) (hb:isB L i Ak=true):∃f',f=f'+1/\((∃a j,FH L (i+1) (AN L i)=.ok a j/\fut5 L f' j {p with claims:=p.claims++[a]}=some r)\/(∃e q,FH L (i+1) (AN L i)=.bad e q/\r=.bad e q)):=by
 obtain⟨f',hf,h1⟩:=Ix h hb;refine⟨f',hf,h1.imp (fun⟨a,j,h2,h3⟩=>⟨a,j,Option.some.inj h2,?_⟩) (fun⟨e,q,h2,h3⟩=>⟨e,q,Option.some.inj h2,h3⟩)⟩;unfold fut5;simpa using h3
theorem Sr (h:fut5 L f i p=some r) (hb:isB L i Ak=false):OY L i p=r:=by have:=Iy h hb;simpa using this
theorem QCb (h:fut5 L f i p=some r) (hb:isB L i Az=true):r=badR L i 5:=by
 have hi:=Bl hb;have h2:=Sr h (by
  cases hq:isB L i Ak with
  |false=>rfl
  |true=>
   unfold isB at hb hq;rw[Int.toNat_natCast,List.getElem?_eq_getElem hi]at hb hq;simp at hb hq;rw[hb.2]at hq;exact absurd hq.2 (by decide))
 rw[<-h2];unfold OY;rw[if_pos hi]
end
section
variable {L M:List Tok} {F f i:Nat} {p:Prg}
theorem EW.fut5 (h:EW L M i):fut5 L f i p=fut5 M f i p:=by
 unfold YthfkpalfopdmhaaGreatDoor.fut5;refine BI (Sm (F:=f) (q:=Xh M) h (Iu L f) (fun k hk=>?_) f i (Nat.le_refl _)) fun cs j hj=>?_
 ·unfold Xh;rw[(h.on hk).place,(h.on (show i<=k+1 by omega)).claim]
 ·rcases Nat.lt_or_ge i (L.length+1)with hi|hi
  ·have a:=GL (Iu L f) f i _ (by omega) hj;have a1:=a.1;unfold OY;rw[h.len,(h.on a1).bad]
  ·cases f with
   |zero=>simp[CC]at hj
   |succ f=>
    unfold CC at hj;rw[if_neg (by intro hb;have:=Bl hb;omega)]at hj;obtain⟨-,rfl⟩:[]=cs/\i=j:=by simpa using hj
    unfold OY;rw[h.len,h.bad]
theorem EW.fut4 (h:EW L M i) (hi:i<=L.length):fut4 L F i p=fut4 M F i p:=by
 unfold YthfkpalfopdmhaaGreatDoor.fut4;refine BI (h.recs F) fun rs j hj=>?_
 have a:=SV hi hj;exact(h.on a.1).fut5
theorem EW.fut3 (h:EW L M i) (hi:i<=L.length):fut3 L F f i p=fut3 M F f i p:=by
 unfold YthfkpalfopdmhaaGreatDoor.fut3;refine BI (Sm (F:=F) h (GM L F) (fun k hk=>(h.on hk).thread F) f i (Nat.le_refl _)) fun ts j hj=>?_
 have a:=GL (GM L F) f i _ hi hj;exact(h.on a.1).fut4 a.2
end
end Go.Proofs.YthfkpalfopdmhaaGreatDoor
namespace Go.Proofs.YthfkpalfopdmhaaGreatDoor
open Go
end Go.Proofs.YthfkpalfopdmhaaGreatDoor
namespace Go.Proofs.YthfkpalfopdmhaaGreatDoor
open Go Go.RowKit
def PH (K:Act->World->Prop) (Q:Exit->Act->World->Prop):Exit->Act->World->Prop
 |.normal,a,w=>K a w
 |.ret,a,w=>Q .ret a w
 |.exit id,a,w=>Q (.exit id) a w
 |.goto t,a,w=>Q (.goto t) a w
 |.panic c,a,w=>Q (.panic c) a w
 |.outgrown,a,w=>Q .outgrown a w
section
variable {P:Program} {md:Region.Mode} {l:List Oper} {Q:Exit->Act->World->Prop}
theorem QDd {o:Oper} {a:Act} {w:World} {K next:Act->World->Prop} (h:o.wp P a w next (PH K Q)):o.wp P a w next Q:=by
 unfold Oper.wp at *;generalize(execOp a.eval o).run P w=r at *;cases r with
 |ok n w'=>cases n<;>first|exact h|exact Calls.mono h (fun e w h=>by cases e<;>exact h)
 |halt x w'=>cases x<;>exact h
theorem RP {ops:Array Oper} {listed:Array Bool} {k:Nat} (h:k∈Region.ready md ops listed):k<ops.size:=by
 unfold Region.ready at h;exact List.mem_range.1 (List.mem_filter.1 h).1
theorem PY {k fuel:Nat} {listed:Array Bool} {a:Act} {w:World} (hk:k<l.toArray.size) (m:Nat) {K:Act->World->Prop}
  (h:wpList P l.toArray (PH K Q) ((l.drop k).take (m+1)) a w) (hK:∀a w,wpList P l.toArray (PH K Q) ((l.drop (k+1)).take m) a w->wpAny P md l.toArray Q fuel (listed.setIfInBounds k true) a w):
  wpOp P l.toArray Q k (wpAny P md l.toArray Q fuel (listed.setIfInBounds k true)) a w:=by
 have hk':k<l.length:=by simpa using hk
 rw[List.drop_eq_getElem_cons hk',List.take_succ_cons]at h;unfold wpOp;rw[show l.toArray[k]?=some l[k]from by simp[hk']];simp only;unfold wpList at h;split
 ·rename_i hw
  rw[if_pos hw]at h;rcases h with h|⟨h1,h2⟩
  ·exact .inl (Oper.wp_mono hK (QDd h))
  ·exact .inr ⟨h1,h2⟩
 ·rename_i hw
  rw[if_neg hw]at h;exact hK _ _ h
def Up (n c:Nat) (ex:List Nat):Array Bool:=((List.range n).map fun i=>decide (i<c)||ex.contains i).toArray
theorem WF (n c:Nat) (ex:List Nat) (i:Nat) (d:Bool):(Up n c ex).getD i d=if i<n then(decide (i<c)||ex.contains i)else d:=by
 by_cases h:i<n
 ·simp[Up,h]
 ·simp[Up,h]
theorem X6 {n c k:Nat} {ex:List Nat} (hk:k<n):(Up n c ex).setIfInBounds k true=Up n c (k::ex):=by
 apply Array.ext
 ·simp[Up]
 ·intro i h1 h2;have hi:i<n:=by simpa[Up]using h2
  by_cases e:i=k
  ·subst e;simp[Up]
  ·rw[Array.getElem_setIfInBounds_ne (by simpa[Up]using hi) (fun h=>e h.symm)];simp[Up,e]
theorem QFN {n c:Nat} (hc:c<n):(Up n c []).setIfInBounds c true=Up n (c+1) []:=by
 apply Array.ext
 ·simp[Up]
 ·intro i h1 h2;have hi:i<n:=by simpa[Up]using h2
  by_cases e:i=c
  ·subst e;simp[Up]
  ·rw[Array.getElem_setIfInBounds_ne (by simpa[Up]using hi) (fun h=>e h.symm)];simp[Up];omega
theorem QFO (n:Nat):Array.replicate n false=Up n 0 []:=by
 apply Array.ext
 ·simp[Up]
 ·intro i h1 h2;simp[Up]
theorem filter_one {p:Nat->Bool} {k:Nat}:∀n,k<n->(∀i,i<n->p i=decide (i=k))->(List.range n).filter p=[k]:=by
 intro n
 induction n with
 |zero=>intro h;omega
 |succ n ih=>
  intro hk hp;rw[List.range_succ,List.filter_append];have hn:=hp n (by omega);by_cases e:n=k
  ·subst e;have:(List.range n).filter p=[]:=List.filter_eq_nil_iff.2 (fun i hi=>by
    rw[hp i (by have:=List.mem_range.1 hi;omega)];have:=List.mem_range.1 hi;simp;omega)
   rw[this];simp[hn]
  ·rw[ih (by omega) (fun i hi=>hp i (by omega))];simp[hn,e]
def preB (md:Region.Mode) (ops:Array Oper) (m:Nat):Bool:=
 (List.range ops.size).all fun j=>match ops[j]? with
  |some o=>(decide (m<=j)||o.after.all (fun e=>!Region.binds md e||decide (e.on<j)))&&(decide (j=0)||o.after.any (fun e=>Region.binds md e&&decide (min (j-1) (m-1)<=e.on)))
  |none=>false
theorem QA9 {ops:Array Oper} {m k:Nat} (h:preB md ops m=true) (hm:m<=ops.size) (hk:k<m):Region.ready md ops (Up ops.size k [])=[k]:=by
 unfold Region.ready;refine filter_one _ (by omega) (fun i hi=>?_);have hj:=List.all_eq_true.1 h i (List.mem_range.2 hi);have ho:ops[i]?=some ops[i]:=by simp[hi]
 rw[ho]at hj⊢;simp only[Bool.and_eq_true,Bool.or_eq_true,decide_eq_true_eq]at hj;obtain⟨h1,h2⟩:=hj;rw[WF,if_pos hi];simp only[Option.map_some,Option.getD_some,List.contains_nil,Bool.or_false];rcases Nat.lt_trichotomy i k with hlt|heq|hgt
 ·have:decide (i<k)=true:=by simpa using hlt
  have e:¬i=k:=by omega
  simp[this,e]
 ·subst heq;have hall:ops[i].after.all (fun e=>!Region.binds md e||(Up ops.size i []).getD e.on false)=true:=by
   rcases h1 with h1|h1
   ·omega
   ·rw[Array.all_eq_true]at h1⊢;intro q hq;have:=h1 q hq;simp only[Bool.or_eq_true,Bool.not_eq_true',decide_eq_true_eq]at this⊢;rcases this with h|h
    ·exact .inl h
    ·right;rw[WF,if_pos (by omega)];simp[h]
  rw[hall];simp
 ·have hno:ops[i].after.all (fun e=>!Region.binds md e||(Up ops.size k []).getD e.on false)=false:=by
   rcases h2 with h2|h2
   ·omega
   ·rw[Array.any_eq_true]at h2;obtain⟨q,hq,h2⟩:=h2;simp only[Bool.and_eq_true,decide_eq_true_eq]at h2;rw[Array.all_eq_false];refine⟨q,hq,?_⟩;rw[h2.1,WF];have:¬ops[i].after[q].on<k:=by have:=h2.2;omega
    simp[this]
  rw[hno];have e:¬i=k:=by omega
  simp[e]
theorem QFP (n:Nat):∀(t c fuel:Nat) (a:Act) (w:World),(∀k,c<=k->k<c+t->Region.ready md l.toArray (Up n k [])=[k])->c+t<=n->l.toArray.size=n->
  wpList P l.toArray (PH (wpAny P md l.toArray Q fuel (Up n (c+t) [])) Q) ((l.drop c).take t) a w->wpAny P md l.toArray Q (t+fuel) (Up n c []) a w:=by
 intro t
 induction t with
 |zero=>intro c fuel a w _ _ _ h;rw[List.take_zero]at h;rw[Nat.zero_add];exact h
 |succ t ih=>
  intro c fuel a w hr hn hs h;have hrc:=hr c (Nat.le_refl _) (by omega);rw[show t+1+fuel=(t+fuel)+1 from by omega];refine⟨fun h0=>(by rw[hrc]at h0;cases h0),fun i hi=>?_⟩;have hlt:=RP hi;rw[hrc]at hi;obtain rfl:=List.mem_singleton.1 hi;refine PY hlt t h (fun a' w' h'=>?_);rw[QFN (by omega)];exact ih (i+1) fuel a' w' (fun k h1 h2=>hr k (by omega) (by omega)) (by omega) hs (by rw[show i+1+t=i+(t+1)from by omega];exact h')
theorem Rh {id:Nat} {a:Act} {w:World} (m fuel:Nat) (hm:P.follows .mixedOrders=true) (hn:l.length=m+fuel) (hB:preB .any l.toArray m=true)
  (h:wpList P l.toArray (PH (wpAny P .any l.toArray Q fuel (Up (m+fuel) m [])) Q) (l.take m) a w.drew):(Code.region id l.toArray true).wp P Q a w:=by
 have hsz:l.toArray.size=m+fuel:=by simpa using hn
 refine wp_region_any hm ?_;rw[hsz,QFO];refine QFP (md:=.any) (m+fuel) m 0 fuel _ w.drew (fun k _ hk=>?_) (by omega) hsz (by rw[List.drop_zero,Nat.zero_add];exact h);have:=QA9 hB (by omega) (k:=k) (by omega);rw[hsz]at this;exact this
def Ol (md:Region.Mode) (l:List Oper):List (List Nat):=l.map fun o=>(o.after.toList.filter (fun e=>Region.binds md e)).map (fun e=>e.on)
def RQ (E:List (List Nat)) (n c:Nat) (ex:List Nat):List Nat:=(List.range n).filter fun i=>!(decide (i<c)||ex.contains i)&&(match E[i]? with
 |some es=>es.all (fun k=>decide (k<n)&&(decide (k<c)||ex.contains k))
 |none=>false)
theorem Ut {E:List (List Nat)} {n c:Nat} {ex:List Nat} (hE:Ol md l=E) (hn:l.length=n):Region.ready md l.toArray (Up n c ex)=RQ E n c ex:=by
 subst hE;unfold Region.ready RQ;have hs:l.toArray.size=n:=by simpa using hn
 rw[hs];refine List.filter_congr (fun i hi=>?_);have hi':i<n:=List.mem_range.1 hi;have hl:i<l.length:=by omega
 rw[WF,if_pos hi',show l.toArray[i]?=some l[i]from by simp[hl]];have hE:(Ol md l)[i]?=some ((l[i].after.toList.filter (fun e=>Region.binds md e)).map (fun e=>e.on)):=by
  unfold Ol;rw[List.getElem?_map,List.getElem?_eq_getElem hl];rfl
 rw[hE];simp only[Option.map_some,Option.getD_some];congr 1;rw[<-Array.all_toList,List.all_map,List.all_filter];refine List.all_congr rfl (fun e=>?_);rw[WF];by_cases h:e.on<n
 ·simp[h]
 ·simp[h]
def QGm (E:List (List Nat)) (n c:Nat):Nat->Nat->List Nat->Bool
 |_,0,_=>true
 |k,m+1,ex=>(RQ E n c ex==[k])&&decide (k<n)&&QGm E n c (k+1) m (k::ex)
def QHG:Nat->Nat->List Nat->List Nat
 |_,0,ex=>ex
 |k,m+1,ex=>QHG (k+1) m (k::ex)
theorem Fp {E:List (List Nat)} {n c:Nat} (hE:Ol md l=E) (hn:l.length=n):∀(m k fuel:Nat) (ex:List Nat) (a:Act) (w:World),QGm E n c k m ex=true->
  wpList P l.toArray (PH (wpAny P md l.toArray Q fuel (Up n c (QHG k m ex))) Q) ((l.drop k).take m) a w->wpAny P md l.toArray Q (m+fuel) (Up n c ex) a w:=by
 intro m
 induction m with
 |zero=>intro k fuel ex a w _ h;rw[List.take_zero]at h;rw[Nat.zero_add];exact h
 |succ m ih=>
  intro k fuel ex a w hB h;unfold QGm at hB;rw[Bool.and_eq_true,Bool.and_eq_true,beq_iff_eq,decide_eq_true_eq]at hB;obtain⟨⟨hr,hkn⟩,hB⟩:=hB;rw[<-Ut hE hn]at hr;rw[show m+1+fuel=(m+fuel)+1 from by omega];refine⟨fun h0=>(by rw[hr]at h0;cases h0),fun i hi=>?_⟩;have hlt:=RP hi;rw[hr]at hi;obtain rfl:=List.mem_singleton.1 hi;refine PY hlt m h (fun a' w' h'=>?_);rw[X6 hkn];exact ih (i+1) fuel _ a' w' hB h'
theorem N5 {E:List (List Nat)} {n c i j fuel:Nat} {ex:List Nat} {a:Act} {w:World} (hE:Ol md l=E) (hn:l.length=n) (hr:(RQ E n c ex==[i,j])=true) (hi:i<n) (hj:j<n)
  (h1:wpList P l.toArray (PH (wpAny P md l.toArray Q fuel (Up n c (i::ex))) Q) ((l.drop i).take 1) a w)
  (h2:wpList P l.toArray (PH (wpAny P md l.toArray Q fuel (Up n c (j::ex))) Q) ((l.drop j).take 1) a w):wpAny P md l.toArray Q (fuel+1) (Up n c ex) a w:=by
 rw[beq_iff_eq,<-Ut hE hn]at hr;refine⟨fun h0=>(by rw[hr]at h0;cases h0),fun k hk=>?_⟩;have hlt:=RP hk;rw[hr]at hk;rcases List.mem_cons.1 hk with rfl|hk
 ·exact PY hlt 0 h1 (fun a' w' h'=>by rw[List.take_zero]at h';rw[X6 hi];exact h')
 ·obtain rfl:=List.mem_singleton.1 hk;exact PY hlt 0 h2 (fun a' w' h'=>by rw[List.take_zero]at h';rw[X6 hj];exact h')
theorem QFQ {E:List (List Nat)} {n c fuel:Nat} {ex:List Nat} {a:Act} {w:World} (hE:Ol md l=E) (hn:l.length=n) (hr:(RQ E n c ex==[])=true) (h:Q .normal a w):wpAny P md l.toArray Q fuel (Up n c ex) a w:=by
 rw[beq_iff_eq,<-Ut hE hn]at hr;cases fuel with
 |zero=>exact⟨hr,h⟩
 |succ f=>exact⟨fun _=>h,fun i hi=>by rw[hr]at hi;cases hi⟩
end
end Go.Proofs.YthfkpalfopdmhaaGreatDoor

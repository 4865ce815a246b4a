/- Texts of the walk, packed. -/
import Derived.Test.YthfkpalfopdmhaaGreatDoorW01
import Derived.WalkMore
import Derived.Deep.Cut
import Derived.Deep.QuietTactic
import Derived.BigQuiet
import Derived.Test.YthfkpalfopdmhaaGreatDoorW00
namespace Go.Proofs.YthfkpalfopdmhaaGreatDoor
open Go.RowKit
theorem AC {w w1 w2:World} (h:Below w.heap.size w w1) (k:Below w1.heap.size w1 w2):Below w.heap.size w w2:=h.trans (k.mono h.size)
theorem Du {W w1:World} (hb:Below W.heap.size W w1):(∀b o,b<W.heap.size->w1.cell? ⟨b,o,none⟩=W.cell? ⟨b,o,none⟩)/\(∀b o,b<W.heap.size->w1.frozen? ⟨b,o,none⟩=W.frozen? ⟨b,o,none⟩):=by
 constructor
 ·intro b o h;have e:({block:=b,off:=o,spot:=none}:Addr).block<W.heap.size:=h;exact hb.cell e
 ·intro b o h;have e:({block:=b,off:=o,spot:=none}:Addr).block<W.heap.size:=h;exact hb.frozen e
theorem Gg {w w1:World} {o:Obj} (hb:Below (w.alloc o).heap.size (w.alloc o) w1):Below w.heap.size w w1:=
 ((Below.refl _ _).alloc (Nat.le_refl _) o).trans (hb.mono (by simp))
theorem Fq {w w1:World} {o:Obj} (hb:Below (w.alloc o).heap.size (w.alloc o) w1) (x0 x1 x2 x3:Value):
  Below w.heap.size w ((((w1.setCell ⟨w.heap.size,0,none⟩ x0).setCell ⟨w.heap.size,1,none⟩ x1).setCell ⟨w.heap.size,2,none⟩ x2).setCell ⟨w.heap.size,3,none⟩ x3):=
 ((((Gg hb).setCell (Nat.le_refl _) _).setCell (Nat.le_refl _) _).setCell (Nat.le_refl _) _).setCell (Nat.le_refl _) _
theorem WL {w w1:World} (hb:Below w.heap.size w w1) {g:Nat} (hg:w.heap.size<=g) (x0 x1 x2 x3:Value):
  Below w.heap.size w ((((w1.setCell ⟨g,0,none⟩ x0).setCell ⟨g,1,none⟩ x1).setCell ⟨g,2,none⟩ x2).setCell ⟨g,3,none⟩ x3):=
 (((hb.setCell hg _).setCell hg _).setCell hg _).setCell hg _
def BJ (t:Tok):List Value:=[.int .i64 t.kind,.string ⟨t.text.toArray⟩,.int .i64 t.n,.int .i64 t.pl]
def D9 (L:List Tok):List Value:=L.flatMap BJ
theorem U4 (L:List Tok) (t:Tok):D9 (L++[t])=D9 L++BJ t:=by simp[D9]
def L2 (w:World) (B:Nat) (v:Value) (L:List Tok):Prop:=w.ownsRow B 67 4 v L.length (D9 L)
def TQ (f:Found) (w:World) (e:Ending) (w':World):Prop:=
 ∃v,e=.returned (.tuple #[v,.int .i64 f.err,.int .i64 f.pl])/\L2 w' w.heap.size v f.toks/\Below w.heap.size w w'
theorem info31:(Tryz.prog.info? 67).map (fun i=>(i.zero,i.size,i.bytes))=some (some (.agg #[.int .i64 0,.string ⟨#[]⟩,.int .i64 0,.int .i64 0]),4,40):=by kernel_rfl
theorem QFs {w w':World} {B:Nat} {v:Value} {L:List Tok} (h:L2 w B v L) (hb:Below w.heap.size w w'):L2 w' B v L:=by
 obtain⟨h1,h2⟩:=h;refine⟨h1,?_⟩;rcases h2 with h2|⟨g,cap,cur,hv,hg,hh,r⟩
 ·exact .inl h2
 ·exact .inr ⟨g,cap,cur,hv,hg,(hb.block g (Array.getElem?_eq_some_iff.1 hh).1).trans hh,r⟩
theorem Y1 {l:List UInt8} {k:Nat} {c:UInt8} {L:List Tok} {R:Found} (hd:l.drop k=c::l.drop (k+1)) (hb:Eu c=true) (hI:(AV (l.drop k) k).pre L=R):(AV (l.drop (k+1)) (k+1)).pre L=R:=by
 rw[hd,Bj _ _ hb]at hI;exact hI
theorem QDu {l:List UInt8} {k:Nat} {c:UInt8} {L:List Tok} {R:Found} (hd:l.drop k=c::l.drop (k+1)) (hb:Eu c=false) (hr:D8 (l.drop k)=true) (hI:(AV (l.drop k) k).pre L=R):
  (AV (l.drop (k+((l.drop k).takeWhile Hn).length)) (k+((l.drop k).takeWhile Hn).length)).pre L=R:=by
 rw[<-List.drop_drop];rw[hd]at *;rw[IK _ _ hb hr]at hI;exact hI
theorem QDv {l:List UInt8} {k:Nat} {c:UInt8} {L:List Tok} {R:Found} (hd:l.drop k=c::l.drop (k+1)) (hb:Eu c=false) (hr:D8 (l.drop k)=false) (he:(AZ (l.drop k)).err=0) (hI:(AV (l.drop k) k).pre L=R):
  (AV (l.drop (k+(AZ (l.drop k)).text.length)) (k+(AZ (l.drop k)).text.length)).pre (L++[⟨(AZ (l.drop k)).kind,(AZ (l.drop k)).text,(AZ (l.drop k)).n,k⟩])=R:=by
 rw[<-List.drop_drop];rw[hd]at *;rw[GA _ _ hb hr he,TN]at hI;exact hI
theorem QDw {l:List UInt8} {k:Nat} {c:UInt8} {L:List Tok} {R:Found} (hd:l.drop k=c::l.drop (k+1)) (hb:Eu c=false) (hr:D8 (l.drop k)=false) (he:(AZ (l.drop k)).err≠0) (hI:(AV (l.drop k) k).pre L=R):
  R=.fail (AZ (l.drop k)).err k:=by
 rw[hd]at *;rw[IL _ _ hb hr he,QBG _ _ _ he]at hI;exact hI.symm
theorem QDx {l:List UInt8} {k:Nat} {L:List Tok} {R:Found} (hd:l.length<=k) (hI:(AV (l.drop k) k).pre L=R):R=.fine L:=by
 rw[List.drop_eq_nil_of_le hd,LS,Kt]at hI;simpa using hI.symm
theorem QBL (p:UInt8->Bool) (l:List UInt8):(l.takeWhile p).length<=l.length:=(List.takeWhile_sublist p).length_le
theorem QDy (s:ByteArray) (k:Nat) (h:k<s.size):(s.extract k s.size).size=s.size-k/\∃h0:0<(s.extract k s.size).size,(s.extract k s.size)[0]=s[k]:=by
 have h1:(s.extract k s.size).size=s.size-k:=by simp
 refine⟨h1,by omega,?_⟩;have:=ByteArray.getElem_extract (b:=s) (start:=k) (stop:=s.size) (i:=0) (by rw[h1];omega);simpa using this
def TR (w1:World) (g:Nat) (a b c d e:Value):World:=
 ((((w1.setCell ⟨g,0,none⟩ a).setCell ⟨g,1,none⟩ b).setCell ⟨g,2,none⟩ c).setCell ⟨g,3,none⟩ d).setCell ⟨g,3,none⟩ e
theorem WM {wr w1:World} {z0 z1 z2 z3:Value} (hb:Below (wr.alloc (.cells #[z0,z1,z2,z3] 67)).heap.size (wr.alloc (.cells #[z0,z1,z2,z3] 67)) w1) (a b c d e:Value):
  (TR w1 wr.heap.size a b c d e).cell? ⟨wr.heap.size,0,none⟩=some a/\(TR w1 wr.heap.size a b c d e).cell? ⟨wr.heap.size,1,none⟩=some b/\(TR w1 wr.heap.size a b c d e).cell? ⟨wr.heap.size,2,none⟩=some c/\
  (TR w1 wr.heap.size a b c d e).cell? ⟨wr.heap.size,3,none⟩=some e/\Below wr.heap.size wr (TR w1 wr.heap.size a b c d e)/\wr.heap.size<(TR w1 wr.heap.size a b c d e).heap.size:=by
 obtain⟨hc,hf⟩:=Du hb;have hz3:wr.heap.size<w1.heap.size:=by have:=hb.size;simp at this;omega
 have d0:=hc wr.heap.size 0 (by simp);have d1:=hc wr.heap.size 1 (by simp);have d2:=hc wr.heap.size 2 (by simp);have d3:=hc wr.heap.size 3 (by simp);unfold TR;refine⟨by simp[go_sem,d0],by simp[go_sem,d1],by simp[go_sem,d2],World.cell?_setCell_same (u:=d) _ _ _ (by simp[go_sem,d3]),(WL (Gg hb) (Nat.le_refl _) _ _ _ _).setCell (Nat.le_refl _) _,by simp only[World.setCell,Array.size_modify];exact hz3⟩
theorem Rk {w:World} {B:Nat} {v:Value} {L:List Tok} (h:L2 w B v L):∀g,v.ownBlock=some g->B<=g/\g<w.heap.size:=by
 intro g hg;rcases h.2 with⟨rfl,_⟩|⟨g',cap,cur,rfl,hB,hh,_⟩
 ·simp[Value.ownBlock]at hg
 ·simp[Value.ownBlock]at hg;subst hg;exact⟨hB,(Array.getElem?_eq_some_iff.1 hh).1⟩
theorem TS {w wr W2 w3:World} {v v':Value} {L:List Tok} {t:Tok} {o:Obj} (hO:L2 wr w.heap.size v L) (hB:Below w.heap.size w wr) (hBW:Below wr.heap.size wr W2) (hsz:wr.heap.size<W2.heap.size)
  (hown':w3.ownsRow w.heap.size 67 4 v' (L.length+1) (D9 L++BJ t)) (hg:(W2.alloc o).grownBy w3 v.ownBlock):
  L2 w3 w.heap.size v' (L++[t])/\Below w.heap.size w w3/\(∀j u,W2.cell? ⟨wr.heap.size,j,none⟩=some u->w3.cell? ⟨wr.heap.size,j,none⟩=some u):=by
 have hz:=hB.size;refine⟨?_,?_,fun j u hu=>?_⟩
 ·unfold L2;rw[U4,List.length_append];exact hown'
 ·exact((hB.trans (hBW.mono hz)).alloc (by have:=hBW.size;omega) o).grown hg (by simp;have:=hBW.size;omega) (fun k hk=>(Rk hO k hk).1)
 ·have h1:(W2.alloc o).cell? ⟨wr.heap.size,j,none⟩=some u:=by
   rw[World.cell?_alloc_lt W2 o _ (by exact hsz)];exact hu
  rw[<-h1];exact World.cell?_of_block (hg.block _ (by simp;omega) (fun e=>by have:=(Rk hO _ e.symm).2;simp at this))
theorem Y2 {W2:World} (t:Tok):∀j u,(BJ t)[j]?=some u->(W2.alloc (.cells #[.int .i64 t.kind,.string ⟨t.text.toArray⟩,.int .i64 t.n,.int .i64 t.pl] 67)).cell? ((⟨W2.heap.size,0,none⟩:Addr).add j)=some u:=by
 intro j u hu
 match j,hu with
 |0,hu=>simp[BJ]at hu;subst hu;simp[Addr.add]
 |1,hu=>simp[BJ]at hu;subst hu;simp[Addr.add]
 |2,hu=>simp[BJ]at hu;subst hu;simp[Addr.add]
 |3,hu=>simp[BJ]at hu;subst hu;simp[Addr.add]
 |n+4,hu=>simp[BJ]at hu
theorem QDz (t:Tok):∀u∈BJ t,u.oneCell'=true:=by
 intro u hu;simp[BJ]at hu;rcases hu with rfl|rfl|rfl|rfl<;>rfl
theorem OB {f f':Found} {w w':World} {e:Ending} {v:Value} (he:e=.returned (.tuple #[v,.int .i64 f'.err,.int .i64 f'.pl])) (h:f=f') (ho:L2 w' w.heap.size v f'.toks) (hb:Below w.heap.size w w'):TQ f w e w':=by
 subst h;exact⟨v,he,ho,hb⟩
theorem TT (w:World) (B:Nat):L2 w B (.slice none 0 0) []:=World.ownsRow_nil _ _ _ _
def GX (w:World) (v:Value) (L:List Tok):Prop:=
 ∃A c,v=.slice A L.length c/\L.length<=c/\(∀i t,L[i]?=some t->∃g,A=some ⟨g,0,none⟩/\g<w.heap.size/\
  w.cell? ⟨g,i*4,none⟩=some (.int .i64 t.kind)/\w.cell? ⟨g,i*4+1,none⟩=some (.string ⟨t.text.toArray⟩)/\w.cell? ⟨g,i*4+2,none⟩=some (.int .i64 t.n)/\w.cell? ⟨g,i*4+3,none⟩=some (.int .i64 t.pl))
theorem Pn (L:List Tok):(D9 L).length=4*L.length:=by
 induction L with
 |nil=>rfl
 |cons t L ih=>unfold D9 at *;rw[List.flatMap_cons,List.length_append,ih];simp[BJ];omega
theorem Rl:∀(L:List Tok) (i:Nat) (t:Tok) (j:Nat) (u:Value),L[i]?=some t->(BJ t)[j]?=some u->(D9 L)[i*4+j]?=some u
 |[],i,t,j,u,h,_=>by simp at h
 |a::L,0,t,j,u,h,hj=>by
  simp at h;subst h;unfold D9;rw[List.flatMap_cons,List.getElem?_append_left (by have:=(List.getElem?_eq_some_iff.1 hj).1;omega)];simpa using hj
 |a::L,i+1,t,j,u,h,hj=>by
  have ih:=Rl L i t j u (by simpa using h) hj;unfold D9 at *;rw[List.flatMap_cons,List.getElem?_append_right (by simp[BJ];omega)];rw[<-ih];congr 1;simp[BJ];omega
theorem L2.read {w:World} {B:Nat} {v:Value} {L:List Tok} (h:L2 w B v L):GX w v L:=by
 rcases h.2 with⟨rfl,h0⟩|⟨g,cap,cur,rfl,hB,hh,hn,hm,hs,hc⟩
 ·have:L=[]:=List.length_eq_zero_iff.1 h0;subst this;exact⟨none,0,rfl,Nat.le_refl _,fun i t h=>by simp at h⟩
 ·refine⟨_,cap,rfl,hn,fun i t hi=>⟨g,rfl,(Array.getElem?_eq_some_iff.1 hh).1,?_⟩⟩;have key:∀j u,(BJ t)[j]?=some u->w.cell? ⟨g,i*4+j,none⟩=some u:=by
   intro j u hj;have h1:=Rl L i t j u hi hj;have hlt:=(List.getElem?_eq_some_iff.1 h1).1;rw[Pn]at hlt;rw[cell_of_row w g _ cur 67 (0,0) hh];rw[<-hc,List.getElem?_take,if_pos (by omega)]at h1;simpa using h1
  exact⟨key 0 _ rfl,key 1 _ rfl,key 2 _ rfl,key 3 _ rfl⟩
theorem GX.on {w w':World} {v:Value} {L:List Tok} (h:GX w v L) (hb:Below w.heap.size w w'):GX w' v L:=by
 obtain⟨A,c,hv,hc,hr⟩:=h;refine⟨A,c,hv,hc,fun i t hi=>?_⟩;obtain⟨g,hA,hg,h0,h1,h2,h3⟩:=hr i t hi;have e:∀j,w'.cell? ⟨g,j,none⟩=w.cell? ⟨g,j,none⟩:=fun j=>hb.cell (p:=⟨g,j,none⟩) hg
 exact⟨g,hA,Nat.lt_of_lt_of_le hg hb.size,by rw[e];exact h0,by rw[e];exact h1,by rw[e];exact h2,by rw[e];exact h3⟩
theorem AM (w:World) (n:Nat):Below w.heap.size w (w.drewN n):=⟨rfl,rfl,rfl,Nat.le_refl _,fun _ _=>rfl⟩
theorem QGs (w:World) (n m:Nat):(w.drewN n).drewN m=w.drewN (n+m):=World.drewN_drewN _ _ _
theorem G4 (w:World) (n m:Nat):Below w.heap.size w ((w.drewN n).drewN m):=by rw[QGs];exact AM _ _
end Go.Proofs.YthfkpalfopdmhaaGreatDoor

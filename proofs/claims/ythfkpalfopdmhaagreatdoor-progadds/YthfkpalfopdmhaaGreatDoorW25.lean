/- Texts of the walk, packed. -/
import Derived.Test.YthfkpalfopdmhaaGreatDoorW24
import Derived.Test.YthfkpalfopdmhaaGreatDoorW00
namespace Go.Proofs.YthfkpalfopdmhaaGreatDoor
open Go.RowKit
def VZ (L:List Tok) (pre:List Stm) (rr r:RS Bk):Prop:=match rr with
 |.bad e p=>r=.bad e p
 |.ok b j=>match Bo L j [125]with
  |.ok _ j2=>∃t,r=.ok t j2/\t.flat=pre++b.flat
  |.bad e p=>r=.bad e p
theorem Z1 {L:List Tok} {row:DF} {i d l:Nat} {r:RS Bk} (h:CB row L i d l=some r) (h1:isB L i [123]=true) (h2:d<=12):∃rr,row (i+1) d l=some rr/\VZ L [] rr r:=by
 unfold CB at h;rw[if_neg (by omega),NY h1,RS.obind_ok]at h;rcases RS.obind_some h with⟨b,j,h3,h4⟩|⟨e,p,h3,h4⟩
 ·refine⟨_,h3,?_⟩;unfold VZ;simp only;cases hm:Bo L j [125]with
  |ok u j2=>
   rw[hm]at h4;exact⟨b,(Option.some.inj h4).symm,rfl⟩
  |bad e p=>
   rw[hm]at h4;exact(Option.some.inj h4).symm
 ·exact⟨_,h3,h4⟩
theorem QEQ {L:List Tok} {f i d l:Nat} {pre:List Stm} {rr r:RS Bk} (h:C7 L f i d l=some rr) (hf:VZ L pre rr r) (hq:isB L i [125]=true):∃t,r=.ok t (i+1)/\t.flat=pre:=by
 cases f with
 |zero=>simp[C7]at h
 |succ f=>
  rw[Dk,if_pos hq]at h;obtain rfl:=Option.some.inj h;unfold VZ at hf;simp only[NY hq]at hf;obtain⟨t,h1,h2⟩:=hf;exact⟨t,h1,by rw[h2];simp[Bk.flat]⟩
theorem QB7 {L:List Tok} {f i d l:Nat} {pre:List Stm} {rr r:RS Bk} (h:C7 L f i d l=some rr) (hf:VZ L pre rr r) (hq:isB L i [125]=false):∃f' ro,f=f'+1/\G8 (C7 L f') L i d l=some ro/\
  (match ro with
  |.bad e p=>r=.bad e p
  |.ok o j=>∃rr',C7 L f' j d l=some rr'/\VZ L (pre++(o.s::(o.b.flat++o.e.flat))) rr' r):=by
 cases f with
 |zero=>simp[C7]at h
 |succ f=>
  rw[Dk,if_neg (by rw[hq];simp)]at h;rcases RS.obind_some h with⟨o,j,h1,h2⟩|⟨e,p,h1,rfl⟩
  ·refine⟨f,.ok o j,rfl,h1,?_⟩;simp only;rcases RS.obind_some h2 with⟨b,j2,h3,h4⟩|⟨e,p,h3,rfl⟩
   ·refine⟨_,h3,?_⟩;obtain rfl:=Option.some.inj h4;unfold VZ at hf⊢;simp only at hf⊢;split at hf
    ·rename_i u j3 _
     obtain⟨t,g1,g2⟩:=hf;exact⟨t,g1,by rw[g2];simp[Bk.flat]⟩
    ·exact hf
   ·exact⟨_,h3,hf⟩
  ·exact⟨f,.bad e p,rfl,h1,hf⟩
section
variable {L:List Tok} {W0:World} {g:Nat} {lv:Value} {i d l m:Nat} {pl:Int} {K:List Sv} {kv:Value} {w:World} {b:Nat} {x:Sv}
def XI (L:List Tok) (W0:World) (g:Nat) (lv:Value) (d l m:Nat) (K:List Sv) (kv:Value) (w:World) (f:Nat) (r:RS Bk) (wr:World):Prop:=
 ∃(f' i':Nat) (pl':Int) (K':List Sv) (kv':Value) (pre:List Stm) (rr:RS Bk),f'<=f/\Dc L W0 g lv i' (d+1) l (m+pre.length) pl' (K++K') kv' wr/\K'.map (·.s)=pre.take (40-K.length)/\Dj kv kv' w/\AG (Mine g kv) w wr/\m+pre.length+1<=i'/\i'<=L.length/\C7 L f' i' d l=some rr/\VZ L pre rr r
theorem DZ {j:Nat} {v:Value} (h:w.cell? ⟨g,j,none⟩=some v):BM g j w=v:=by unfold BM;rw[h];rfl
set_option maxRecDepth 100000 in
set_option maxHeartbeats 8000000 in
theorem XJ (hs:Src L W0 lv) (f:Nat) (ih:∀f',f'<f->Gm L W0 g lv (C7 L f')):Gm L W0 g lv (C7 L f):=by
 intro i d l m pl K kv w r h hr;have HS:=AA h;have HC:=AA hs;have IH:=AA ih;have hlen:=hs.len;have hgl:=h.lt;have c0:=h.c0;have c1:=h.c1;have hdd:=h.dd;have hll:=h.ll;have hmi:=h.mi;cases hq:isB L i [123]with
 |false=>
  obtain⟨er,her⟩:∃er:Int,(if i<L.length then 5 else 6)=er:=⟨_,rfl⟩
  have hne0:er≠0:=by rw[<-her];split<;>decide
  have h3:r=.bad er (AN L i):=by
   unfold CB at hr;rw[if_neg (by rw[hq];simp)]at hr;unfold Bo badR at hr;rw[if_neg (by rw[hq];simp),her]at hr;exact(Option.some.inj hr).symm
  subst h3;have HI:=AA hq;have HER:=AA her;clear h hs ih hr hq her;go_enter Tryz.func235,Tryz.ntmps235;go_wp2_with fail
  go_region_held3 (fun w'=>w'.cell? ⟨g,0,none⟩=some lv/\w'.cell? ⟨g,1,none⟩=some (.int .i64 i)/\Below w.heap.size w w')
   (first|exact⟨c0,c1,Below.refl _ _⟩|exact⟨c0,c1,AD _⟩|exact H6 (w1:=w.drew) hgl ⟨c0,c1,AD _⟩ hb1)
   (first|(go_at_call 77;refine(GG (s:=[123]) HI.out lv _ ((HS.out.on (AD _)).toks HC.out)).mono ?_;rintro e w1 ⟨rfl,hb1⟩))
  have HB1:=AA (AC (AD w) hb1);have HS1:=AA (HS.out.on HB1.out);clear hb1 c0 c1;go_wp2_with fail
  refine(OO HC.out HS1.out).mono ?_;rw[HER.out];rintro e w2 ⟨rfl,hs2,hk2⟩;have HS2:=AA hs2;have HK2:=AA hk2;clear hs2 hk2;go_wp2_with fail
  refine bodyPost_ret (v:=.tuple #[.int .i64 0,.int .i64 er]) (by simp[results,Tryz.results235,go_sem]) rfl ?_;exact⟨rfl,hne0,HS2.out.bad,(AG.of (P:=Mine g kv) HB1.out).trans HK2.out (fun _ _ h=>h) (fun _ _ h=>.inl h)⟩
 |true=>
  have hil:=Bl hq;have HI:=AA hq;by_cases hd:12<d
  ·have h3:r=.bad 7 (AN L i):=by
    unfold CB at hr;rw[if_pos ⟨hd,hq⟩]at hr;unfold badR at hr;rw[if_pos hil]at hr;exact(Option.some.inj hr).symm
   subst h3;have hdI:(12:Int)<(d:Int):=by omega
   clear h hs ih hr hq;go_enter Tryz.func235,Tryz.ntmps235;go_wp2_with fail
   go_region_held3 (fun w'=>w'.cell? ⟨g,0,none⟩=some lv/\w'.cell? ⟨g,1,none⟩=some (.int .i64 i)/\Below w.heap.size w w')
    (first|exact⟨c0,c1,Below.refl _ _⟩|exact⟨c0,c1,AD _⟩|exact H6 (w1:=w.drew) hgl ⟨c0,c1,AD _⟩ hb1)
    (first|(go_at_call 77;refine(GG (s:=[123]) HI.out lv _ ((HS.out.on (AD _)).toks HC.out)).mono ?_;rintro e w1 ⟨rfl,hb1⟩))
   have HB1:=AA (AC (AD w) hb1);have HS1:=AA (HS.out.on HB1.out);clear hb1 c0 c1 hgl;have hgl:=HS1.out.lt;have c2:=HS1.out.c2;go_wp2_with fail
   refine(YI HC.out HS1.out 7).mono ?_;rintro e w2 ⟨rfl,hs2,hk2⟩;have HS2:=AA hs2;have HK2:=AA hk2;clear hs2 hk2;go_wp2_with fail
   refine bodyPost_ret (v:=.tuple #[.int .i64 0,.int .i64 7]) (by simp[results,Tryz.results235,go_sem]) rfl ?_;exact⟨rfl,by decide,HS2.out.bad,(AG.of (P:=Mine g kv) HB1.out).trans HK2.out (fun _ _ h=>h) (fun _ _ h=>.inl h)⟩
  ·obtain⟨rr0,hrow0,hfin0⟩:=Z1 hr hq (by omega);have HROW0:=AA hrow0;have HFIN0:=AA hfin0;have hdI:¬(12:Int)<(d:Int):=by omega
   clear h hs ih hr hq hrow0 hfin0;go_enter Tryz.func235,Tryz.ntmps235;go_wp2_with fail
   go_region_held3 (fun w'=>w'.cell? ⟨g,0,none⟩=some lv/\w'.cell? ⟨g,1,none⟩=some (.int .i64 i)/\Below w.heap.size w w')
    (first|exact⟨c0,c1,Below.refl _ _⟩|exact⟨c0,c1,AD _⟩|exact H6 (w1:=w.drew) hgl ⟨c0,c1,AD _⟩ hb1)
    (first|(go_at_call 77;refine(GG (s:=[123]) HI.out lv _ ((HS.out.on (AD _)).toks HC.out)).mono ?_;rintro e w1 ⟨rfl,hb1⟩))
   have HB1:=AA (AC (AD w) hb1);have HS1:=AA (HS.out.on HB1.out);clear hb1 c0 c1 hgl;have hgl:=HS1.out.lt;have c1:=HS1.out.c1;have c2:=HS1.out.c2;have c4:=HS1.out.c4;have f1:=HS1.out.fz 1;have f2:=HS1.out.fz 2;have hw1:IntKind.i64.wrap ((i:Int)+1)=(i:Int)+1:=IntWalk.i64_in _ (by omega);have hw2:IntKind.i64.wrap ((d:Int)+1)=(d:Int)+1:=IntWalk.i64_in _ (by omega);go_upto_region 8 with(fail)
   rw[show((i:Int)+1)=((i+1:Nat):Int)from by omega,show((d:Int)+1)=((d+1:Nat):Int)from by omega];have hs2:Dc L W0 g lv (i+1) (d+1) l m pl K kv ((w1.setCell ⟨g,1,none⟩ (.int .i64 ((i+1:Nat):Int))).setCell ⟨g,2,none⟩ (.int .i64 ((d+1:Nat):Int))):=(HS1.out.set1 (by omega) (by omega)).set2 (by omega) (by omega);have hk2:AG (Mine g kv) w ((w1.setCell ⟨g,1,none⟩ (.int .i64 ((i+1:Nat):Int))).setCell ⟨g,2,none⟩ (.int .i64 ((d+1:Nat):Int))):=((AG.of (P:=Mine g kv) HB1.out).trans AG.set (fun _ _ h=>h) (fun _ _ h=>.inl h)).trans AG.set (fun _ _ h=>h) (fun _ _ h=>.inl h)
   have HR0:Hid (XI L W0 g lv d l m K kv w f r ((w1.setCell ⟨g,1,none⟩ (.int .i64 ((i+1:Nat):Int))).setCell ⟨g,2,none⟩ (.int .i64 ((d+1:Nat):Int)))):=AA ⟨f,i+1,pl,[],kv,[],rr0,Nat.le_refl _,by simpa using hs2,by simp,Dj.refl _ _,hk2,by simp;omega,by omega,HROW0.out,HFIN0.out⟩;generalize hW2:(w1.setCell ⟨g,1,none⟩ (.int .i64 ((i+1:Nat):Int))).setCell ⟨g,2,none⟩ (.int .i64 ((d+1:Nat):Int))=W2 at *;clear hW2 hs2 hk2 c1 c2 c4 f1 f2 hw1 hw2 hgl HS1 HB1;go_loopw [5] (fun _ wr=>XI L W0 g lv d l m K kv w f r wr) (fun _ wr=>L.length-(intOf (BM g 1 wr)).toNat)
   case atStart=>exact HR0.out
   case round=>
    obtain⟨f',i',pl',K',kv',pre,rr,hff,hst,hmp,hon,hkp,hmi',hil',hrow,hfin⟩:=hrel;have HST:=AA hst;have HMP:=AA hmp;have HON:=AA hon;have HKP:=AA hkp;have HHE:=AA (DZ hst.c1);have hgl:=hst.lt;have c0:=hst.c0;have c1:=hst.c1;clear hst hmp hon hkp;cases hq:isB L i' [125]with
    |true=>
     obtain⟨t,rfl,htf⟩:=QEQ hrow hfin hq;have htc:pre.length=t.count:=by rw[<-BV,htf]
     have HI2:=AA hq;have HTF:=AA htf;have hi2:=Bl hq;have HTC:=AA htc;clear hrow hfin hq htf htc;go_wp2_with fail
     go_region_held3 (fun w'=>w'.cell? ⟨g,0,none⟩=some lv/\w'.cell? ⟨g,1,none⟩=some (.int .i64 i')/\Below wr.heap.size wr w')
      (first|exact⟨c0,c1,Below.refl _ _⟩|exact⟨c0,c1,AD _⟩|exact H6 (w1:=wr.drew) hgl ⟨c0,c1,AD _⟩ hb3)
      (first|(go_at_call 77;refine(GG (s:=[125]) HI2.out lv _ ((HST.out.on (AD _)).toks HC.out)).mono ?_;rintro e w3 ⟨rfl,hb3⟩))
     have HB3:=AA (AC (AD wr) hb3);have HS3:=AA (HST.out.on HB3.out);clear hb3 c0 c1 hgl;have hgl:=HS3.out.lt;have c1:=HS3.out.c1;have c2:=HS3.out.c2;have c4:=HS3.out.c4;have f1:=HS3.out.fz 1;have f2:=HS3.out.fz 2;have hw1:IntKind.i64.wrap ((i':Int)+1)=(i':Int)+1:=IntWalk.i64_in _ (by omega);have hw2:IntKind.i64.wrap (((d+1:Nat):Int)-1)=(d:Int):=by rw[IntWalk.i64_in _ (by omega)];omega
     have hw4:IntKind.i64.wrap (((m+pre.length:Nat):Int)-(m:Int))=(pre.length:Int):=by rw[IntWalk.i64_in _ (by omega)];omega
     go_wp2_with fail
     refine bodyPost_ret (v:=.tuple #[.int .i64 (pre.length:Nat),.int .i64 0]) (by simp[results,Tryz.results235,go_sem];omega) rfl ?_;have hs4:=(HS3.out.set1 (j:=i'+1) (by omega) (by omega)).set2 (j:=d) (by omega) (by omega);refine⟨by rw[HTC.out],⟨pl',K',kv',by rw[<-HTC.out];exact hs4,by rw[HTF.out];exact HMP.out,HON.out⟩,?_⟩;exact(((HKP.out.trans (AG.of (P:=fun _=>False) HB3.out) (fun _ _ h=>h) (fun _ _ h=>h.elim)).trans AG.set (R:=Mine g kv) (fun _ _ h=>h) (fun _ _ h=>.inl h))).trans AG.set (fun _ _ h=>h) (fun _ _ h=>.inl h)
    |false=>
     obtain⟨f2,ro,rfl,hone,hro⟩:=QB7 hrow hfin hq;have HI2:=AA hq;have HONE:=AA hone;have hahead:=fun o j (e:ro=.ok o j)=>JZ (FT L f2) (r:=RS.ok o j) (by rw[<-e];exact hone)
     have hcount:=fun o j (e:ro=.ok o j)=>SJ (Zv L f2) (o:=o) (j:=j) (by rw[<-e];exact hone)
     have HOS:Hid (YM L W0 g lv (C7 L f2)):=AA (one_step HC.out (IH.out f2 (by omega)));have HRO:=AA hro;clear hrow hfin hq hone hro;go_wp2_with fail
     go_region_held3 (fun w'=>w'.cell? ⟨g,0,none⟩=some lv/\w'.cell? ⟨g,1,none⟩=some (.int .i64 i')/\Below wr.heap.size wr w')
      (first|exact⟨c0,c1,Below.refl _ _⟩|exact⟨c0,c1,AD _⟩|exact H6 (w1:=wr.drew) hgl ⟨c0,c1,AD _⟩ hb3)
      (first|(go_at_call 77;refine(GG (s:=[125]) HI2.out lv _ ((HST.out.on (AD _)).toks HC.out)).mono ?_;rintro e w3 ⟨rfl,hb3⟩))
     have HB3:=AA (AC (AD wr) hb3);have HS3:=AA (HST.out.on HB3.out);have HK3:Hid (AG (Mine g kv) w w3):=AA (HKP.out.trans (AG.of (P:=fun _=>False) HB3.out) (fun _ _ h=>h) (fun _ _ h=>h.elim));clear hb3 c0 c1 hgl;cases ro with
     |bad er p=>
      obtain rfl:r=.bad er p:=HRO.out;clear HRO hahead hcount;go_wp2_with fail
      refine(HOS.out i' d l (m+pre.length) pl' (K++K') kv' w3 _ HS3.out (by omega) hil' hll HONE.out).mono ?_;rintro e w4 ⟨rfl,hne0,hba,hk4⟩;have hz2:(er != 0)=true:=by simp[hne0]
      have HRES:Hid (SK L W0 g lv d l m K kv w (.bad er p) (.returned (.tuple #[.int .i64 0,.int .i64 er])) w4):=AA ⟨rfl,hne0,hba,HK3.out.trans hk4 (fun _ _ h=>h) (fun q hq h=>Mine.onward HON.out q hq h)⟩;clear hne0 hba hk4;go_wp2_with fail
      refine bodyPost_ret (v:=.tuple #[.int .i64 0,.int .i64 er]) (by simp[results,Tryz.results235,go_sem]) rfl ?_;exact HRES.out
     |ok o j=>
      obtain⟨rr',hrow',hfin'⟩:=HRO.out;have ha:=hahead o j rfl;have hcn:=hcount o j rfl;have ha1:=ha.1;have ha2:=ha.2;have HROW':=AA hrow';have HFIN':=AA hfin';clear hahead hcount hrow' hfin' ha;go_wp2_with fail
      refine(HOS.out i' d l (m+pre.length) pl' (K++K') kv' w3 _ HS3.out (by omega) hil' hll HONE.out).mono ?_;rintro e w4 ⟨rfl,⟨pl4,K4,kv4,hs4,hm4,ho4⟩,hk4⟩;have hpl:(pre++(o.s::(o.b.flat++o.e.flat))).length=pre.length+1+o.b.count+o.e.count:=by simp only[List.length_append,List.length_cons,BV];omega
      have HREL:Hid (XI L W0 g lv d l m K kv w f r w4):=AA ⟨f2,j,pl4,K'++K4,kv4,pre++(o.s::(o.b.flat++o.e.flat)),rr',by omega,by rw[hpl,<-List.append_assoc,show m+(pre.length+1+o.b.count+o.e.count)=m+pre.length+1+o.b.count+o.e.count from by omega];exact hs4,SL HMP.out (by rw[hm4,List.length_append];congr 1;omega),HON.out.trans ho4 HK3.out.size,HK3.out.trans hk4 (fun _ _ h=>h) (fun q hq h=>Mine.onward HON.out q hq h),by rw[hpl];omega,ha2,HROW'.out,HFIN'.out⟩
      have HME:Hid (L.length-(intOf (BM g 1 w4)).toNat<L.length-(intOf (BM g 1 wr)).toNat):=AA (by rw[HHE.out,DZ hs4.c1];show L.length-((j:Int)).toNat<L.length-((i':Int)).toNat;omega);clear hs4 hm4 ho4 hk4 hpl;go_wp2_with fail
      go_roundw;case rel=>
       repeat apply Exists.intro
       exact⟨HREL.out,rfl⟩
      case measure=>exact HME.out
theorem Z3 (hs:Src L W0 lv):∀f,Gm L W0 g lv (C7 L f):=fun f=>Nat.strongRecOn f fun f ih=>XJ hs f ih
def Ec (w:World) (B:Nat) (v:Value) (M:List Stm):Prop:=∃K:List Sv,K.map (·.s)=M/\w.ownsRow B 44 9 v K.length (Bc K)/\∀x∈K,B0 B w x.vE x.s.e/\B0 B w x.vF x.s.f
theorem Qi (w:World) (B:Nat):Ec w B (.slice none 0 0) []:=⟨[],rfl,⟨rfl,.inl ⟨rfl,rfl⟩⟩,fun x h=>by cases h⟩
def QER (r:ParsedS) (w:World) (e:Ending) (w':World):Prop:=∃v,e=.returned (.tuple #[v,.int .i64 r.tq,.int .i64 r.err,.int .i64 r.pl])/\Ec w' w.heap.size v r.stmts/\Below w.heap.size w w'
theorem OV (L:List Tok) (i:Nat):FD L i=QBs L i (Fa L i 0 0):=by
 unfold FD;rw[if_neg (by omega),Int.toNat_natCast]
theorem XK {er p:Int} (h:Fa L i 0 0=.bad er p):FD L i=⟨[],0,er,p⟩:=by rw[OV,h];rfl
theorem XL {t:Bk} {j:Nat} (h:Fa L i 0 0=.ok t j) (hc:40<t.count):FD L i=⟨[],0,2,AN L i⟩:=by rw[OV,h];show(if 40<t.count then _ else _)=_;rw[if_pos hc]
theorem Z4 {t:Bk} {j:Nat} (h:Fa L i 0 0=.ok t j) (hc:¬40<t.count):FD L i=⟨t.flat,j,0,0⟩:=by rw[OV,h];show(if 40<t.count then _ else _)=_;rw[if_neg hc]
theorem Ha.cell6 {p:Int} (h:Ha g lv p w):w.cell? ⟨g,6,none⟩=some (.int .i64 p)/\g<w.heap.size:=by
 obtain⟨a,b,c,d,e,h⟩:=h;exact⟨by rw[Lib.cell_of_heap h];rfl,(Array.getElem?_eq_some_iff.1 h).1⟩
set_option maxRecDepth 100000 in
set_option maxHeartbeats 4000000 in
theorem Qj (v:Value) (L:List Tok) (i:Int) (w:World) (h:GX w v L) (ht:Tabs w) (hl:L.length<=10000) (hsm:Gf L):Calls Tryz.prog 217 #[v,.int .i64 i] w (QER (FD L i) w):=by
 have HSRC:Hid (Src L w v):=AA ⟨h,ht,hl,hsm⟩;have HRT:=AA h;by_cases hi:i<0
 ·have HV:Hid (FD L i=⟨[],0,1,0⟩):=AA (by unfold FD;rw[if_pos hi]);clear h ht hsm;go_enter Tryz.func217,Tryz.ntmps217;go_wp2_with fail
  refine bodyPost_ret (v:=.tuple #[.slice none 0 0,.int .i64 0,.int .i64 1,.int .i64 0]) (by simp[results,Tryz.results217,go_sem]) rfl ?_;rw[HV.out];exact⟨_,rfl,Qi _ _,Below.refl _ _⟩
 obtain⟨n,rfl⟩:∃n:Nat,i=n:=⟨i.toNat,by omega⟩
 have hw:Dc L w w.heap.size v n 0 0 0 0 [] (.slice none 0 0) (w.alloc (.cells #[v,.int .i64 n,.int .i64 0,.int .i64 0,.int .i64 0,.slice none 0 0,.int .i64 0] 255)):=
  ⟨(Below.refl _ _).alloc (Nat.le_refl _) _,Nat.le_refl _,heap_alloc_new w _,⟨rfl,.inl ⟨rfl,rfl⟩⟩,fun x h=>by(cases h),rfl,.inr rfl,Nat.zero_le _,by omega,Nat.le_refl _⟩
 have HST:=AA hw;have HBS:=AA (Z3 (g:=w.heap.size) HSRC.out (L.length+1) n 0 0 0 0 [] (.slice none 0 0) _ _ hw (Oz L n 0 0));have HLO:Hid (∀k,k<w.heap.size->¬Mine w.heap.size (.slice none 0 0) k):=AA hw.mine_low;clear h ht hsm hw;obtain⟨A,c,rfl,_,_⟩:=HRT.out;generalize hW:w.alloc (.cells #[.slice A L.length c,.int .i64 n,.int .i64 0,.int .i64 0,.int .i64 0,.slice none 0 0,.int .i64 0] 255)=W at *;cases hb:Fa L n 0 0 with
 |bad er p=>
  have HV:=AA (XK hb);rw[hb]at HBS;clear hb;go_enter Tryz.func217,Tryz.ntmps217;go_wp2_with fail
  refine HBS.out.mono ?_;rintro e w1 ⟨rfl,hne0,hba,hk⟩;have hz2:(er != 0)=true:=by simp[hne0]
  have HB1:Hid (Below w.heap.size w w1):=AA (HST.out.low.trans (hk.below HLO.out HST.out.low.size));obtain⟨c6,hgl⟩:=hba.cell6;clear hba hk hne0 hW;go_wp2_with fail
  go_quiet (fail)
  go_wp2_with fail
  refine bodyPost_ret (v:=.tuple #[.slice none 0 0,.int .i64 0,.int .i64 er,.int .i64 p]) (by simp[results,Tryz.results217,go_sem]) rfl ?_;rw[HV.out];exact⟨_,rfl,Qi _ _,HB1.out.trans (Below.mono (AM _ _) HB1.out.size)⟩
 |ok t j=>
  rw[hb]at HBS;by_cases hc:40<t.count
  ·have HV:=AA (XL hb hc);have hcI:(40:Int)<(t.count:Int):=by omega
   clear hb;go_enter Tryz.func217,Tryz.ntmps217;go_wp2_with fail
   refine HBS.out.mono ?_;rintro e w1 ⟨rfl,_,hk⟩;have HB1:Hid (Below w.heap.size w w1):=AA (HST.out.low.trans (hk.below HLO.out HST.out.low.size));clear hk hW;go_wp2_with fail
   refine(IP (.slice A L.length c) L n _ (HRT.out.on HB1.out) HSRC.out.len HSRC.out.small).mono ?_;rintro e w2 ⟨rfl,hb2⟩;have HB2:=AA (AC HB1.out hb2);clear hb2;go_wp2_with fail
   refine bodyPost_ret (v:=.tuple #[.slice none 0 0,.int .i64 0,.int .i64 2,.int .i64 (AN L n)]) (by simp[results,Tryz.results217,go_sem]) rfl ?_;rw[HV.out];exact⟨_,rfl,Qi _ _,HB2.out⟩
  ·have HV:=AA (Z4 hb hc);have hcI:¬(40:Int)<(t.count:Int):=by omega
   have hfl:=BV t;clear hb;go_enter Tryz.func217,Tryz.ntmps217;go_wp2_with fail
   refine HBS.out.mono ?_;rintro e w1 ⟨rfl,⟨pl',K',kv',hs1,hm1,_⟩,hk⟩;have HB1:Hid (Below w.heap.size w w1):=AA (HST.out.low.trans (hk.below HLO.out HST.out.low.size));have HS1:=AA hs1;have HM1:Hid (K'.map (·.s)=t.flat):=AA (by rw[hm1];exact List.take_of_length_le (by simp;omega));have hgl:=hs1.lt;have c5:=hs1.c5;have c1:=hs1.c1;clear hk hW hs1 hm1 hfl;go_wp2_with fail
   go_quiet (fail)
   go_wp2_with fail
   refine bodyPost_ret (v:=.tuple #[kv',.int .i64 j,.int .i64 0,.int .i64 0]) (by simp[results,Tryz.results217,go_sem]) rfl ?_;rw[HV.out];have hb5:=AM w1 nq;have hs5:=HS1.out.on hb5;refine⟨_,rfl,⟨K',HM1.out,by simpa using hs5.row,fun x hx=>hs5.rds x (by simpa using hx)⟩,AC HB1.out hb5⟩
end
end Go.Proofs.YthfkpalfopdmhaaGreatDoor

/- Texts of the walk, packed. -/
import Derived.Test.YthfkpalfopdmhaaGreatDoorY14
import Derived.Test.YthfkpalfopdmhaaGreatDoorY09
import Derived.Test.YthfkpalfopdmhaaGreatDoorY16
import Derived.Test.YthfkpalfopdmhaaGreatDoorY07
import Derived.Test.YthfkpalfopdmhaaGreatDoorY10
import Derived.Test.YthfkpalfopdmhaaGreatDoorY00
namespace Go.Proofs.YthfkpalfopdmhaaGreatDoor
open Go.RowKit
theorem JH (b:Bk):b.deep≤b.count:=by
 induction b with
 |nil=>exact Nat.le_refl _
 |cons s b e r h1 h2 h3=>
  simp only[Bk.deep,Bk.count]
  split<;>omega
theorem EO {l:List UInt8} (h:nameB l=true):l.length≤16:=by
 unfold nameB at h
 simp only[Bool.and_eq_true,decide_eq_true_eq]at h
 exact h.1.1.1.2
theorem J5 {l:List Nod} (h:BZ l=true):(Bi l).length≤840:=by
 obtain⟨x,rfl,h1,h2,h3,h4,_⟩:=Gq h
 rw[h4];exact RN h1 h3
theorem I3 {l:List Nod} (h:BZ l=true):l.length≤10000∧Fa l:=by
 obtain⟨x,rfl,h1,h2,h3,h4,_⟩:=Gq h
 refine⟨by rw[B7];omega,fun a ha=>?_⟩
 have:=Ne h1.2 a ha
 omega
theorem QA4 {x:Stm} (h:Dy x=true):(I1 x).length≤1800:=by
 obtain⟨k,hk,h1,h2⟩:=Hj h
 obtain⟨_,_,_,hr,hn,he,hf,ht⟩:=J2 hk h
 have hrl:x.reg.length≤16:=by
  split at hr
  ·exact EO hr
  ·rw[List.isEmpty_iff.1 hr];simp
 have hnl:x.name.length≤16:=by
  split at hn
  ·exact EO hn
  ·rw[List.isEmpty_iff.1 hn];simp
 have nil0:(Bi []).length≤840:=by decide
 have hel:(Bi x.e).length≤840:=by
  split at he
  ·exact J5 he
  ·rw[List.isEmpty_iff.1 he];exact nil0
 have hfl:(Bi x.f).length≤840:=by
  split at hf
  ·exact J5 hf
  ·rw[List.isEmpty_iff.1 hf];exact nil0
 have kwl:∀k:Fin 15,(Jo (k.1:Nat)).length≤6:=by decide
 have kwk:(Jo x.kind).length≤6:=by rw[hk];exact kwl ⟨k,by omega⟩
 have k2:(Jo 2).length≤6:=by decide
 have k3:(Jo 3).length≤6:=by decide
 have k4:(Jo 4).length≤6:=by decide
 have k12:(Jo 12).length≤6:=by decide
 unfold I1
 split
 ·simp only[List.length_append,List.length_cons,List.length_nil];omega
 split
 ·simp only[List.length_append,List.length_cons,List.length_nil];omega
 split
 ·simp only[List.length_append,List.length_cons,List.length_nil];omega
 split
 ·simp only[List.length_append,List.length_cons,List.length_nil];omega
 split
 ·simp only[List.length_append,List.length_cons];omega
 split
 ·rename_i h12
  have hkk:k=12:=by omega
  rw[if_pos hkk]at ht
  have ht':1≤x.n∧x.n≤8:=by simpa using ht
  have hil:(Lib.itoa x.n).length≤20:=by
   obtain⟨u,hu⟩:∃u:Nat,x.n=u:=⟨x.n.toNat,by omega⟩
   rw[hu,Lib.itoa_nonneg,Q9 (by omega)];simp
  simp only[List.length_append,List.length_cons];omega
 split
 ·omega
 ·simp only[List.length_append,List.length_cons];omega
theorem RQ:∀(b:Bk) (ind:List UInt8),FV b→(Bw ind b).length≤b.count*(3*ind.length+6*b.count+2000):=by
 intro b
 induction b with
 |nil=>intro ind _;simp[Bw]
 |cons s b e r i1 i2 i3=>
  intro ind h
  obtain⟨_,_,_,_,g1,g2,g3,g4⟩:=Gs.1 h
  have h1:=i1 (ind++[32,32]) g2
  have h2:=i2 (ind++[32,32]) g3
  have h3:=i3 ind g4
  have hh:=QA4 g1
  have he:FU.length=4:=rfl
  generalize hK:3*ind.length+6*(Bk.cons s b e r).count+2000=K
  have hc:(Bk.cons s b e r).count=b.count+e.count+r.count+1:=rfl
  have m1:(Bw (ind++[32,32]) b).length≤b.count*K:=Nat.le_trans h1 (Nat.mul_le_mul_left _ (by rw[List.length_append];simp only[List.length_cons,List.length_nil];omega))
  have m2:(Bw (ind++[32,32]) e).length≤e.count*K:=Nat.le_trans h2 (Nat.mul_le_mul_left _ (by rw[List.length_append];simp only[List.length_cons,List.length_nil];omega))
  have m3:(Bw ind r).length≤r.count*K:=Nat.le_trans h3 (Nat.mul_le_mul_left _ (by omega))
  rw[hc,Nat.add_mul,Nat.add_mul,Nat.add_mul,Nat.one_mul]
  have hK2:3*ind.length+2000≤K:=by omega
  unfold Bw
  split
  ·split
   ·simp only[List.length_append,List.length_cons,List.length_nil];omega
   ·simp only[List.length_append,List.length_cons,List.length_nil];omega
  ·simp only[List.length_append,List.length_cons,List.length_nil];omega
theorem Ks {b:Bk} {ind:List UInt8} (h:FV b) (hc:b.count≤40) (hi:ind.length≤100):(Bw ind b).length≤1000000:=by
 have h1:=RQ b ind h
 have h2:b.count*(3*ind.length+6*b.count+2000)≤40*(3*ind.length+6*b.count+2000):=Nat.mul_le_mul_right _ hc
 omega
structure Pq (w:World) (g:Nat) (a b c d:Value):Prop where
 lt:g<w.heap.size
 c0:w.cell? ⟨g,0,none⟩=some a
 c1:w.cell? ⟨g,1,none⟩=some b
 c2:w.cell? ⟨g,2,none⟩=some c
 c3:w.cell? ⟨g,3,none⟩=some d
 f0:w.frozen? ⟨g,0,none⟩=false
 f1:w.frozen? ⟨g,1,none⟩=false
 f2:w.frozen? ⟨g,2,none⟩=false
 f3:w.frozen? ⟨g,3,none⟩=false
theorem Pq.on {w w':World} {g:Nat} {a b c d:Value} (h:Pq w g a b c d) (hb:Below w.heap.size w w'):Pq w' g a b c d:=
 ⟨Nat.lt_of_lt_of_le h.lt hb.size,(hb.cell (p:=⟨g,0,none⟩) h.lt).trans h.c0,(hb.cell (p:=⟨g,1,none⟩) h.lt).trans h.c1,(hb.cell (p:=⟨g,2,none⟩) h.lt).trans h.c2,(hb.cell (p:=⟨g,3,none⟩) h.lt).trans h.c3,(hb.frozen (p:=⟨g,0,none⟩) h.lt).trans h.f0,(hb.frozen (p:=⟨g,1,none⟩) h.lt).trans h.f1,(hb.frozen (p:=⟨g,2,none⟩) h.lt).trans h.f2,(hb.frozen (p:=⟨g,3,none⟩) h.lt).trans h.f3⟩
theorem Pq.set {w:World} {g:Nat} {a b c d:Value} (h:Pq w g a b c d) (a' b' c' d':Value):Pq ((((w.setCell ⟨g,0,none⟩ a').setCell ⟨g,1,none⟩ b').setCell ⟨g,2,none⟩ c').setCell ⟨g,3,none⟩ d') g a' b' c' d':=by
 have o:∀(w:World) (j k:Nat) (x:Value),j≠k→(w.setCell ⟨g,j,none⟩ x).cell? ⟨g,k,none⟩=w.cell? ⟨g,k,none⟩:=fun w j k x hjk=>World.cell?_setCell_other _ _ _ _ (fun e=>hjk (congrArg Addr.off e))
 refine⟨by simpa using h.lt,?_,?_,?_,?_,by simpa using h.f0,by simpa using h.f1,by simpa using h.f2,by simpa using h.f3⟩
 ·rw[o _ 3 0 _ (by decide),o _ 2 0 _ (by decide),o _ 1 0 _ (by decide)]
  exact World.cell?_setCell_same _ _ _ h.c0
 ·rw[o _ 3 1 _ (by decide),o _ 2 1 _ (by decide)]
  exact World.cell?_setCell_same _ _ _ (by rw[o _ 0 1 _ (by decide)];exact h.c1)
 ·rw[o _ 3 2 _ (by decide)]
  exact World.cell?_setCell_same _ _ _ (by rw[o _ 1 2 _ (by decide),o _ 0 2 _ (by decide)];exact h.c2)
 ·exact World.cell?_setCell_same _ _ _ (by rw[o _ 2 3 _ (by decide),o _ 1 3 _ (by decide),o _ 0 3 _ (by decide)];exact h.c3)
theorem Uz (x y:Stm):DO false x y=(x.kind==y.kind&&(x.reg==y.reg&&(x.name==y.name&&(ET false x.e y.e&&(ET false x.f y.f&&(x.n==y.n&&(x.body==y.body&&x.els==y.els))))))):=by
 unfold DO
 cases x.kind==y.kind<;>cases x.reg==y.reg<;>cases x.name==y.name<;>cases x.n==y.n<;>cases x.body==y.body<;>cases x.els==y.els<;>cases ET false x.e y.e<;>cases ET false x.f y.f<;>rfl
set_option maxRecDepth 100000 in
set_option maxHeartbeats 8000000 in
theorem alike_any (x y:Stm) (vE vF uE uF:Value) (w:World) (hE:BA w vE x.e) (hF:BA w vF x.f) (kE:BA w uE y.e) (kF:BA w uF y.f) (hs:GV x):Calls Tryz.prog 175 #[Qp x vE vF,Qp y uE uF] w (AN (DO false x y) w):=by
 have s3:=hs.2.2.1
 have s4:=hs.2.2.2.1
 clear hs
 have HV:=AA (Uz x y)
 obtain⟨V,hV⟩:∃V,DO false x y=V:=⟨_,rfl⟩
 rw[hV]
 rw[hV]at HV
 clear hV
 obtain⟨k,reg,name,e,f,n,body,els,pl⟩:=x
 obtain⟨k',reg',name',e',f',n',body',els',pl'⟩:=y
 obtain⟨AE,cE,rfl,_⟩:=id hE
 obtain⟨AF,cF,rfl,_⟩:=id hF
 obtain⟨BE,dE,rfl,_⟩:=id kE
 obtain⟨BF,dF,rfl,_⟩:=id kF
 simp only at *
 unfold Qp
 simp only
 have HB1:=AA ((Below.refl w.heap.size w).alloc (Nat.le_refl _) (.cells #[.int .i64 k,.string ⟨reg.toArray⟩,.string ⟨name.toArray⟩,.slice AE e.length cE,.slice AF f.length cF,.int .i64 n,.int .i64 body,.int .i64 els,.int .i64 pl] 44))
 have N1:=AA (Ed w (.int .i64 k) (.string ⟨reg.toArray⟩) (.string ⟨name.toArray⟩) (.slice AE e.length cE) (.slice AF f.length cF) (.int .i64 n) (.int .i64 body) (.int .i64 els) (.int .i64 pl) 44)
 go_enter Tryz.func175,Tryz.ntmps175
 go_upto_region 1 with(fail)
 have hz:w.heap.size+1=(w.alloc (.cells #[.int .i64 k,.string ⟨reg.toArray⟩,.string ⟨name.toArray⟩,.slice AE e.length cE,.slice AF f.length cF,.int .i64 n,.int .i64 body,.int .i64 els,.int .i64 pl] 44)).heap.size:=by simp
 rw[hz]
 generalize w.alloc (.cells #[.int .i64 k,.string ⟨reg.toArray⟩,.string ⟨name.toArray⟩,.slice AE e.length cE,.slice AF f.length cF,.int .i64 n,.int .i64 body,.int .i64 els,.int .i64 pl] 44)=X at *
 have HB2:=AA ((Below.refl X.heap.size X).alloc (Nat.le_refl _) (.cells #[.int .i64 k',.string ⟨reg'.toArray⟩,.string ⟨name'.toArray⟩,.slice BE e'.length dE,.slice BF f'.length dF,.int .i64 n',.int .i64 body',.int .i64 els',.int .i64 pl'] 44))
 have N2:=AA (Ed X (.int .i64 k') (.string ⟨reg'.toArray⟩) (.string ⟨name'.toArray⟩) (.slice BE e'.length dE) (.slice BF f'.length dF) (.int .i64 n') (.int .i64 body') (.int .i64 els') (.int .i64 pl') 44)
 have N1':=AA (N1.out.on HB2.out)
 generalize X.alloc (.cells #[.int .i64 k',.string ⟨reg'.toArray⟩,.string ⟨name'.toArray⟩,.slice BE e'.length dE,.slice BF f'.length dF,.int .i64 n',.int .i64 body',.int .i64 els',.int .i64 pl'] 44)=Y at *
 have HB:=AA (AC HB1.out HB2.out)
 have RE:=AA (hE.on HB.out)
 have RF:=AA (hF.on HB.out)
 have QE:=AA (kE.on HB.out)
 have QF:=AA (kF.on HB.out)
 clear hE hF kE kF N1 HB1 HB2 hz
 obtain⟨_,a0,a1,a2,a3,a4,a5,a6,a7,a8⟩:=N1'.out
 obtain⟨_,b0,b1,b2,b3,b4,b5,b6,b7,b8⟩:=N2.out
 cases e1:(k==k')with
 |false=>
  have HN:Hid (V=false):=AA (by rw[HV.out,e1];simp)
  go_wp2_with fail
  go_ret
  exact⟨AH HN.out.symm,HB.out⟩
 |true=>
  cases e2:(reg==reg')with
  |false=>
   have HN:Hid (V=false):=AA (by rw[HV.out,e2];simp)
   go_wp2_with fail
   go_ret
   exact⟨AH HN.out.symm,HB.out⟩
  |true=>
   cases e3:(name==name')with
   |false=>
    have HN:Hid (V=false):=AA (by rw[HV.out,e3];simp)
    go_wp2_with fail
    go_ret
    exact⟨AH HN.out.symm,HB.out⟩
   |true=>
    go_wp2_with fail
    refine(PN _ _ e e' _ RE.out QE.out s3).mono ?_
    cases e4:ET false e e' with
    |false=>
     have HN:Hid (V=false):=AA (by rw[HV.out,e4];simp)
     rintro r1 w1 ⟨rfl,hb1⟩
     go_wp2_with fail
     go_ret
     exact⟨AH HN.out.symm,AC HB.out hb1⟩
    |true=>
     rintro r1 w1 ⟨rfl,hb1⟩
     have HC1:=AA (hb1)
     clear hb1 a0 a1 a2 a3 a4 a5 a6 a7 a8 b0 b1 b2 b3 b4 b5 b6 b7 b8
     obtain⟨_,a0,a1,a2,a3,a4,a5,a6,a7,a8⟩:=N1'.out.on HC1.out
     obtain⟨_,b0,b1,b2,b3,b4,b5,b6,b7,b8⟩:=N2.out.on HC1.out
     go_wp2_with fail
     refine(PN _ _ f f' _ (RF.out.on HC1.out) (QF.out.on HC1.out) s4).mono ?_
     cases e5:ET false f f' with
     |false=>
      have HN:Hid (V=false):=AA (by rw[HV.out,e5];simp)
      rintro r1 w2 ⟨rfl,hb2⟩
      go_wp2_with fail
      go_ret
      exact⟨AH HN.out.symm,AC (AC HB.out HC1.out) hb2⟩
     |true=>
      rintro r1 w2 ⟨rfl,hb2⟩
      have HC2:=AA (AC HC1.out hb2)
      clear hb2 a0 a1 a2 a3 a4 a5 a6 a7 a8 b0 b1 b2 b3 b4 b5 b6 b7 b8
      obtain⟨_,a0,a1,a2,a3,a4,a5,a6,a7,a8⟩:=N1'.out.on HC2.out
      obtain⟨_,b0,b1,b2,b3,b4,b5,b6,b7,b8⟩:=N2.out.on HC2.out
      cases e6:(n==n')with
      |false=>
       have HN:Hid (V=false):=AA (by rw[HV.out,e6];simp)
       go_wp2_with fail
       go_ret
       exact⟨AH HN.out.symm,(AC HB.out HC2.out)⟩
      |true=>
       cases e7:(body==body')with
       |false=>
        have HN:Hid (V=false):=AA (by rw[HV.out,e7];simp)
        go_wp2_with fail
        go_ret
        exact⟨AH HN.out.symm,(AC HB.out HC2.out)⟩
       |true=>
        have HN:Hid (V=(els==els')):=AA (by rw[HV.out,e1,e2,e3,e4,e5,e6,e7];simp)
        go_wp2_with fail
        go_ret
        exact⟨AH HN.out.symm,(AC HB.out HC2.out)⟩
theorem BC (w:World) (x y:Obj):Below w.heap.size w ((w.alloc x).alloc y):=
 ((Below.refl _ _).alloc (Nat.le_refl _) _).alloc (by simp) _
set_option maxRecDepth 100000 in
set_option maxHeartbeats 4000000 in
theorem Wb (v1 v2:Value) (L M:List Stm) (w:World) (h1:BI w v1 L) (h2:BI w v2 M) (hl:L.length≤10000) (hsm:∀x∈L,GV x):
  Calls Tryz.prog 174 #[v1,v2,.func (.func 175) #[] #[]] w (AN (Jv false L M) w):=by
 have HR1:=AA h1
 have HR2:=AA h2
 have HSM:=AA hsm
 obtain⟨A,c,rfl,hc,hm1,hr1⟩:=h1
 obtain⟨A',c',rfl,hc',hm2,hr2⟩:=h2
 clear hr1 hr2 hsm
 by_cases hL:L.length=M.length
 ·rw[←hL]at HR2 hc'⊢
  have HL:=AA hL
  have HM:=AA (show∀k,k<L.length→k<M.length by rw[hL];exact fun _ h=>h)
  clear hL
  go_enter Tryz.func174,Tryz.ntmps174
  go_wp2_with fail
  go_loopw [17] (fun i wr=>∃k:Nat,k≤L.length∧i=.int .i64 k∧Below w.heap.size w wr∧Ad (DO false) (L.take k) (M.take k)=true) (fun i _=>L.length-(intOf i).toNat)
  case atStart=>exact⟨0,Nat.zero_le _,rfl,Below.refl _ _,rfl⟩
  case round=>
   obtain⟨k,hk,rfl,hbel,hs⟩:=hrel
   have HS:=AA hs
   have HB:=AA hbel
   have hsz:=hbel.size
   clear hs
   by_cases hlt:k<L.length
   ·have hkm:=HM.out k hlt
    have ha:L[k]?=some L[k]:=List.getElem?_eq_getElem hlt
    have hb:M[k]?=some (M[k]'hkm):=List.getElem?_eq_getElem hkm
    generalize L[k]=a at *
    generalize M[k]'hkm=b at *
    have HSA:=AA (HSM.out a (List.mem_of_getElem? ha))
    obtain⟨A2,c2,hv,_,_,hr⟩:=HR1.out.on hbel
    obtain⟨rfl,_,rfl⟩:A=A2∧True∧c=c2:=by simpa using hv
    obtain⟨A2',c2',hv',_,_,hr'⟩:=HR2.out.on hbel
    obtain⟨rfl,rfl⟩:A'=A2'∧c'=c2':=by simp only[Value.slice.injEq]at hv';exact⟨hv'.1,hv'.2.2⟩
    obtain⟨g,o,AE,nE,cE,AF,nF,cF,rfl,h9⟩:=hr k a ha
    obtain⟨g',o',BE,mE,dE,BF,mF,dF,rfl,k9⟩:=hr' k b hb
    obtain⟨hg,x0,x1,x2,x3,x4,x5,x6,x7,x8,re,rf⟩:=h9
    obtain⟨hg',y0,y1,y2,y3,y4,y5,y6,y7,y8,qe,qf⟩:=k9
    have RE:=AA re
    have RF:=AA rf
    have QE:=AA qe
    have QF:=AA qf
    have HN:=AA (fun h=>DN (q:=DO false) ha hb h)
    have HY:=AA (CB (q:=DO false) ha hb)
    clear ha hb hr hr' hv hv' hbel re rf qe qf
    cases e1:DO false a b with
    |false=>
     have HE:=AA e1
     clear e1
     go_wp2_with fail
     refine(alike_any a b (.slice AE nE cE) (.slice AF nF cF) (.slice BE mE dE) (.slice BF mF dF) _ (RE.out.on (BC _ _ _)) (RF.out.on (BC _ _ _)) (QE.out.on (BC _ _ _)) (QF.out.on (BC _ _ _)) HSA.out).mono ?_
     rw[HE.out]
     rintro e w1 ⟨rfl,hb⟩
     have HB2:=AA (((HB.out.alloc hsz _).alloc (by simp;omega) _).trans (hb.mono (by simp;omega)))
     clear hb
     go_wp2_with fail
     go_ret
     exact⟨AH (HN.out HE.out).symm,HB2.out⟩
    |true=>
     have HE:=AA e1
     clear e1
     go_wp2_with fail
     refine(alike_any a b (.slice AE nE cE) (.slice AF nF cF) (.slice BE mE dE) (.slice BF mF dF) _ (RE.out.on (BC _ _ _)) (RF.out.on (BC _ _ _)) (QE.out.on (BC _ _ _)) (QF.out.on (BC _ _ _)) HSA.out).mono ?_
     rw[HE.out]
     rintro e w1 ⟨rfl,hb⟩
     have HB2:=AA (((HB.out.alloc hsz _).alloc (by simp;omega) _).trans (hb.mono (by simp;omega)))
     clear hb
     go_wp2_with fail
     go_roundw
     case rel=>exact⟨k+1,by omega,by go_num,HB2.out,by rw[HY.out,HS.out,HE.out];rfl⟩
     case measure=>simp[intOf];omega
   ·have HQ:=AA (Cf (q:=DO false) (by omega) HL.out HS.out)
    clear hbel
    go_wp2_with fail
    go_ret
    exact⟨AH HQ.out.symm,HB.out⟩
 ·have HQ:=AA (Ce (q:=DO false) hL)
  have hd:((L.length:Int) != (M.length:Int))=true:=by simp;omega
  clear hL
  go_enter Tryz.func174,Tryz.ntmps174
  go_wp2_with fail
  go_ret
  exact⟨AH HQ.out.symm,Below.refl _ _⟩
theorem ZK (v1 v2:Value) (L M:List Stm) (w:World) (h1:BI w v1 L) (h2:BI w v2 M) (hl:L.length≤10000) (hsm:∀x∈L,GV x):Calls Tryz.prog 126 #[v1,v2] w (AN (Jv false L M) w):=by
 have HR1:=AA h1
 have HR2:=AA h2
 clear h1 h2
 go_enter Tryz.func126,Tryz.ntmps126
 go_wp2_with fail
 refine(Wb v1 v2 L M _ HR1.out HR2.out hl hsm).mono ?_
 rintro e w1 ⟨rfl,hb⟩
 go_wp2_with fail
 go_ret
 exact⟨rfl,hb⟩
end Go.Proofs.YthfkpalfopdmhaaGreatDoor
namespace Go.Proofs.YthfkpalfopdmhaaGreatDoor
open Go
theorem Gy (num:Bool) (L:List Tok) (i:Nat):Ec L i (Fj num L i):=by
 unfold Fj
 refine Az (Aq L i) fun s j hs=>?_
 have hj:=(Aq L i).tq hs
 split
 ·split
  ·rename_i m hm
   have hlt:j+1<L.length:=by
    unfold numAt at hm
    split at hm
    ·rename_i t ht;exact(List.getElem?_eq_some_iff.1 ht).1
    ·cases hm
   exact⟨by omega,by omega⟩
  ·exact(GL (by omega)).le
 ·exact E4 _ hj
theorem FD {num:Bool} {L:List Tok}:∀(f i:Nat) (r:RS (List Cel)),Bc num L f i=some r→Ec L i r:=by
 intro f
 induction f with
 |zero=>intro i r h;cases h
 |succ f ih=>
  intro i r h
  unfold Bc at h
  have ha:=Gy num L i
  rcases RS.obind_some h with⟨c,k,h1,h2⟩|⟨e,p,h1,rfl⟩
  ·rw[Option.some.inj h1]at ha
   obtain⟨a1,a2⟩:=ha
   split at h2
   ·rename_i hq
    have:=Bt hq
    rcases RS.obind_some h2 with⟨r',k2,h3,h4⟩|⟨e,p,h3,rfl⟩
    ·obtain rfl:=Option.some.inj h4
     have:=ih _ _ h3
     exact⟨by have:=this.1;omega,this.2⟩
    ·exact ih (k+1) _ h3
   ·have am:=Ae L k [59]
    rcases RS.obind_some h2 with⟨r',k2,h3,h4⟩|⟨e,p,h3,rfl⟩
    ·obtain rfl:=Option.some.inj h4
     rw[Option.some.inj h3]at am
     exact⟨by have:=am.1;omega,am.2⟩
    ·rw[Option.some.inj h3]at am;exact am
  ·rw[Option.some.inj h1]at ha;exact ha
theorem QJ {num:Bool} {L:List Tok}:∀(f i:Nat),i≤L.length→L.length+1≤f+i→∃r,Bc num L f i=some r:=by
 intro f
 induction f with
 |zero=>intro i h1 h2;omega
 |succ f ih=>
  intro i h1 h2
  unfold Bc
  refine Ac ⟨_,rfl⟩ fun c k h=>?_
  have ha:=Gy num L i
  rw[Option.some.inj h]at ha
  split
  ·rename_i hq
   have:=Bt hq
   have:=ha.1
   exact Ac (ih _ (by omega) (by omega)) fun r k2 _=>⟨_,rfl⟩
  ·exact Ac ⟨_,rfl⟩ fun r k2 _=>⟨_,rfl⟩
structure OA {α:Type} (L:List Tok) (f:Nat) (kw:List UInt8) (p:Nat→Option (RS α)):Prop where
 ahead:∀(i:Nat) r,isB L i kw=true→p i=some r→Ec L i r
 total:∀(i:Nat),isB L i kw=true→L.length+1≤f+i→∃r,p i=some r
theorem BD {α:Type} {L:List Tok} {f0:Nat} {kw:List UInt8} {p:Nat→Option (RS α)} (hp:OA L f0 kw p):∀(f i:Nat) (r:RS (List α)),i≤L.length→Bj L kw p f i=some r→JG L i r:=by
 intro f
 induction f with
 |zero=>intro i r _ h;cases h
 |succ f ih=>
  intro i r hi h
  unfold Bj at h
  split at h
  ·rename_i hq
   rcases RS.obind_some h with⟨c,k,h1,h2⟩|⟨e,q,h1,rfl⟩
   ·have ha:=hp.ahead _ _ hq h1
    rcases RS.obind_some h2 with⟨r',k2,h3,h4⟩|⟨e,q,h3,rfl⟩
    ·obtain rfl:=Option.some.inj h4
     have:=ih _ _ ha.2 h3
     exact⟨by have:=this.1;have:=ha.1;omega,this.2⟩
    ·exact ih k _ ha.2 h3
   ·exact hp.ahead _ _ hq h1
  ·obtain rfl:=Option.some.inj h
   exact⟨Nat.le_refl _,hi⟩
theorem Ht {α:Type} {L:List Tok} {f0:Nat} {kw:List UInt8} {p:Nat→Option (RS α)} (hp:OA L f0 kw p):∀(f i:Nat),f≤f0→i≤L.length→L.length+1≤f+i→∃r,Bj L kw p f i=some r:=by
 intro f
 induction f with
 |zero=>intro i _ h1 h2;omega
 |succ f ih=>
  intro i hf h1 h2
  unfold Bj
  split
  ·rename_i hq
   refine Ac (hp.total _ hq (by omega)) fun c k h=>?_
   have ha:=hp.ahead _ _ hq h
   have:=ha.1
   exact Ac (ih _ (by omega) ha.2 (by omega)) fun r k2 _=>⟨_,rfl⟩
  ·exact⟨_,rfl⟩
theorem Gz {L:List Tok} {f i o:Nat} {r:RS (List Stm)} (hi:i≤L.length) (h:Fo L f i o=some r):Ec L i r:=by
 unfold Fo at h
 rcases RS.obind_some h with⟨b,k,h1,h2⟩|⟨e,q,h1,rfl⟩
 ·have ha:=FP L f _ _ _ _ hi h1
  have am:=Ae L k [125]
  rcases RS.obind_some h2 with⟨_,k2,h3,h4⟩|⟨e,q,h3,rfl⟩
  ·rw[Option.some.inj h3]at am
   split at h4
   ·obtain rfl:=Option.some.inj h4;exact(by decide:(2:Int)≠0)
   ·obtain rfl:=Option.some.inj h4
    exact⟨by have:=am.1;have:=ha.1;omega,am.2⟩
  ·rw[Option.some.inj h3]at am;exact am
 ·exact FP L f _ _ _ _ hi h1
theorem Wm {L:List Tok} {f i o:Nat} (hi:i≤L.length) (hf:L.length+1≤f+i):∃r,Fo L f i o=some r:=by
 unfold Fo
 refine Ac (Nr L f i 0 0 hi (by omega)) fun b k _=>Ac ⟨_,rfl⟩ fun _ k2 _=>?_
 split<;>exact⟨_,rfl⟩
theorem Is {L:List Tok} {f i:Nat} {r:RS (List (List UInt8))} (hi:i≤L.length) (h:GM L f i=some r):JG L i r:=by
 unfold GM at h
 split at h
 ·rcases RS.obind_some h with⟨l,k,h1,h2⟩|⟨e,q,h1,rfl⟩
  ·obtain rfl:=Option.some.inj h2
   have:=FD _ _ _ h1
   exact⟨by have:=this.1;omega,this.2⟩
  ·exact FD _ _ _ h1
 ·obtain rfl:=Option.some.inj h;exact⟨Nat.le_refl _,hi⟩
theorem Wn {L:List Tok} {f i:Nat} (hf:L.length+1≤f+i):∃r,GM L f i=some r:=by
 unfold GM
 split
 ·rename_i hq
  have:=Bt hq
  exact Ac (QJ f (i+1) (by omega) (by omega)) fun l k _=>⟨_,rfl⟩
 ·exact⟨_,rfl⟩
theorem Jg {L:List Tok} {f i:Nat} {name:List UInt8} {pl:Int} {r:RS Thr} (h:II L f i name pl=some r):Ec L i r:=by
 unfold II at h
 have am:=Ae L i [123]
 rcases RS.obind_some h with⟨_,k,h1,h2⟩|⟨e,q,h1,rfl⟩
 ·rw[Option.some.inj h1]at am
  rcases RS.obind_some h2 with⟨rs,k2,h3,h4⟩|⟨e,q,h3,rfl⟩
  ·have ar:=Is am.2 h3
   rcases RS.obind_some h4 with⟨b,k3,h5,h6⟩|⟨e,q,h5,rfl⟩
   ·have ab:=Gz ar.2 h5
    obtain rfl:=Option.some.inj h6
    exact⟨by have:=am.1;have:=ar.1;have:=ab.1;omega,ab.2⟩
   ·exact Gz ar.2 h5
  ·exact Is am.2 h3
 ·rw[Option.some.inj h1]at am;exact am
theorem Rk {L:List Tok} {f i:Nat} {name:List UInt8} {pl:Int} (hf:L.length+1≤f+i):∃r,II L f i name pl=some r:=by
 unfold II
 refine Ac ⟨_,rfl⟩ fun _ k h=>?_
 have am:=Ae L i [123]
 rw[Option.some.inj h]at am
 have h1:=am.1
 refine Ac (Wn (by omega)) fun rs k2 h2=>?_
 have ar:=Is am.2 h2
 have h3:=ar.1
 exact Ac (Wm ar.2 (by omega)) fun b k3 _=>⟨_,rfl⟩
theorem C0 (num:Bool) (L:List Tok) (f:Nat) (kw:List UInt8):OA L f kw (fun i=>Bc num L f (i+1)):=
 ⟨fun i r hq h=>by
  have:=FD _ _ _ h
  cases r with
  |ok a j=>exact⟨by have:=this.1;omega,this.2⟩
  |bad e p=>exact this,fun i hq hf=>by have:=Bt hq;exact QJ f (i+1) (by omega) (by omega)⟩
theorem D8 (L:List Tok) (f:Nat):OA L f DJ (DT L f):=by
 refine⟨fun i r hq h=>?_,fun i hq hf=>?_⟩
 ·unfold DT at h
  have an:=Aq L (i+1)
  rcases RS.obind_some h with⟨s,k,h1,h2⟩|⟨e,q,h1,rfl⟩
  ·rw[Option.some.inj h1]at an
   have at':=Jg h2
   cases r with
   |ok a j=>exact⟨by have:=an.1;have:=at'.1;omega,at'.2⟩
   |bad e p=>exact at'
  ·rw[Option.some.inj h1]at an;exact an
 ·unfold DT
  refine Ac ⟨_,rfl⟩ fun s k h=>?_
  have an:=Aq L (i+1)
  rw[Option.some.inj h]at an
  have:=an.1
  exact Rk (by omega)
theorem FG (L:List Tok) (f:Nat):OA L f CH (fun i=>some (E8 L (i+1) (AT L i))):=by
 refine⟨fun i r hq h=>?_,fun i _ _=>⟨_,rfl⟩⟩
 obtain rfl:=Option.some.inj h
 have:Ec L (i+1) (E8 L (i+1) (AT L i)):=by
  unfold E8
  exact Az (BQ L _) fun e j he=>(Az (Ae L j _) fun _ k hk=>E4 _ ((Ae L j _).tq hk)).le
 cases hr:E8 L (i+1) (AT L i)with
 |ok a j=>rw[hr]at this;exact⟨by have:=this.1;omega,this.2⟩
 |bad e p=>rw[hr]at this;exact this
theorem Jh {L:List Tok} {f i:Nat} {r:RS (List Thr)} (hi:i≤L.length) (h:KL L f i=some r):JG L i r:=by
 unfold KL at h
 split at h
 ·rcases RS.obind_some h with⟨t,k,h1,h2⟩|⟨e,q,h1,rfl⟩
  ·obtain rfl:=Option.some.inj h2
   have:=Jg h1
   exact⟨by have:=this.1;omega,this.2⟩
  ·exact Jg h1
 ·obtain rfl:=Option.some.inj h;exact⟨Nat.le_refl _,hi⟩
theorem ZV {L:List Tok} {f i:Nat} (hf:L.length+1≤f+i):∃r,KL L f i=some r:=by
 unfold KL
 split
 ·exact Ac (Rk (by omega)) fun t k _=>⟨_,rfl⟩
 ·exact⟨_,rfl⟩
theorem L9 (L:List Tok):∃r,GW L (L.length+1)=some r:=by
 unfold GW N7 Re N8 Jb LN
 refine Ac (Ht (C0 true L _ _) _ 0 (Nat.le_refl _) (by omega) (by omega)) fun ls i1 h1=>?_
 have a1:=BD (C0 true L (L.length+1) _) _ _ _ (by omega) h1
 refine Ac (Ht (C0 true L _ _) _ i1 (Nat.le_refl _) a1.2 (by omega)) fun vs i2 h2=>?_
 have a2:=BD (C0 true L (L.length+1) _) _ _ _ a1.2 h2
 refine Ac (Ht (C0 false L _ _) _ i2 (Nat.le_refl _) a2.2 (by omega)) fun ks i3 h3=>?_
 have a3:=BD (C0 false L (L.length+1) _) _ _ _ a2.2 h3
 refine Ac (Ht (D8 L _) _ i3 (Nat.le_refl _) a3.2 (by omega)) fun ts i4 h4=>?_
 have a4:=BD (D8 L (L.length+1)) _ _ _ a3.2 h4
 refine Ac (ZV (by omega)) fun rs i5 h5=>?_
 have a5:=Jh a4.2 h5
 exact Ac (Ht (FG L _) _ i5 (Nat.le_refl _) a5.2 (by omega)) fun cs i6 _=>⟨_,rfl⟩
theorem Wp {n:Nat} {L:List Tok} (h:TF n L) (num:Bool) (i:Nat):GY n (Fj num L i):=by
 unfold Fj
 refine(D7 h i).bind fun s j=>?_
 split
 ·split
  ·exact An _ _ _
  ·exact EZ h _ _
 ·exact An _ _ _
theorem I8 {n:Nat} {L:List Tok} (h:TF n L) (num:Bool):∀f i,DK n (Bc num L f i):=by
 intro f
 induction f with
 |zero=>intro i r hr;cases hr
 |succ f ih=>
  intro i
  unfold Bc
  refine(AY (Wp h num i)).obind fun c j=>?_
  split
  ·exact(ih _).obind fun _ _=>AY (An _ _ _)
  ·exact(AY (CM h _ _)).obind fun _ _=>AY (An _ _ _)
theorem VB {n:Nat} {L:List Tok} (h:TF n L) (f i o:Nat):DK n (Fo L f i o):=by
 unfold Fo
 refine(Wl h f i 0 0).obind fun b j=>(AY (CM h _ _)).obind fun _ k=>?_
 split
 ·exact AY (fun e p hp=>by
   simp only[RS.bad.injEq]at hp
   rw[←hp.2]
   exact Ko (fun t ht=>(h t ht).1) _)
 ·exact AY (An _ _ _)
theorem QK {n:Nat} {L:List Tok} (h:TF n L) (f i:Nat) (name:List UInt8) (pl:Int):DK n (II L f i name pl):=by
 unfold II
 refine(AY (CM h _ _)).obind fun _ j=>DK.obind ?_ fun rs k=>(VB h f k i).obind fun b m=>AY (An _ _ _)
 unfold GM
 split
 ·exact(I8 h false f _).obind fun _ _=>AY (An _ _ _)
 ·exact AY (An _ _ _)
theorem GZ {α:Type} {n:Nat} {L:List Tok} {kw:List UInt8} {p:Nat→Option (RS α)} (hp:∀i,DK n (p i)):∀f i,DK n (Bj L kw p f i):=by
 intro f
 induction f with
 |zero=>intro i r hr;cases hr
 |succ f ih=>
  intro i
  unfold Bj
  split
  ·exact(hp i).obind fun _ j=>(ih _).obind fun _ _=>AY (An _ _ _)
  ·exact AY (An _ _ _)
theorem VC {n:Nat} {L:List Tok} (h:TF n L) (f:Nat):DK n (GW L f):=by
 unfold GW N7 Re N8 Jb LN
 refine(GZ (fun i=>I8 h true f _) _ _).obind fun ls i1=>(GZ (fun i=>I8 h true f _) _ _).obind fun vs i2=>(GZ (fun i=>I8 h false f _) _ _).obind fun ks i3=>(GZ (fun i=>?_) _ _).obind fun ts i4=>DK.obind ?_ fun rs i5=>(GZ (fun i=>?_) _ _).obind fun cs i6=>AY ?_
 ·unfold DT
  exact(AY (D7 h _)).obind fun s j=>QK h f j _ _
 ·unfold KL
  split
  ·exact(QK h f _ _ _).obind fun t j=>AY (An _ _ _)
  ·exact AY (An _ _ _)
 ·exact AY ((GN h _).bind fun e j=>(CM h _ _).bind fun _ k=>An _ _ _)
 ·unfold L6
  split
  ·exact EZ h _ _
  ·exact An _ _ _
theorem LR:∀{l m:List Cel},l.map bareCel=m.map bareCel→Ad (B8 false) l m=true
 |[],[],_=>rfl
 |[],b::m,h=>by cases h
 |a::l,[],h=>by cases h
 |a::l,b::m,h=>by
  simp only[List.map_cons,List.cons.injEq]at h
  unfold Ad
  rw[LR h.2,Bool.and_true]
  have:=h.1
  obtain⟨a1,a2,a3⟩:=a
  obtain⟨b1,b2,b3⟩:=b
  simp only[bareCel,Cel.mk.injEq]at this
  simp[B8,this.1,this.2.1]
theorem Ji {α β:Type} {q:α→α→Bool} {g:α→β} (h:∀a b,g a=g b→q a b=true):∀{l m:List α},l.map g=m.map g→Ad q l m=true
 |[],[],_=>rfl
 |[],b::m,h=>by cases h
 |a::l,[],h=>by cases h
 |a::l,b::m,e=>by
  simp only[List.map_cons,List.cons.injEq]at e
  unfold Ad
  rw[h a b e.1,Ji h e.2];rfl
theorem VD {a b:Thr} (h:Br a=Br b):B0 false a b=true:=by
 obtain⟨a1,a2,a3,a4⟩:=a
 obtain⟨b1,b2,b3,b4⟩:=b
 simp only[Br,Thr.mk.injEq]at h
 obtain⟨h1,h2,h3,_⟩:=h
 subst h1 h2
 have h4:MV a2 a2=true:=PM (fun a=>by simp) a2
 simp[B0,h4,RZ h3]
theorem ZW {l m:List Nod} (h:l.map bareN=m.map bareN):ET false l m=true:=by
 refine Ji (g:=bareN) (fun a b e=>?_) h
 obtain⟨a1,a2,a3,a4⟩:=a
 obtain⟨b1,b2,b3,b4⟩:=b
 simp only[bareN,Nod.mk.injEq]at e
 simp[EI,e]
theorem QBV {a b:Clm} (h:DR a=DR b):E7 false a b=true:=by
 obtain⟨a1,a2⟩:=a
 obtain⟨b1,b2⟩:=b
 simp only[DR,Clm.mk.injEq,and_true]at h
 simp[E7,ZW h]
theorem ZX {p q:Prg} (h:Cm p=Cm q):Gv false p q=true:=by
 unfold Cm at h
 simp only[Prg.mk.injEq]at h
 obtain⟨h1,h2,h3,h4,h5,h6⟩:=h
 unfold Gv
 have e1:Ad (Ad (B8 false)) p.lines q.lines=true:=Ji (q:=Ad (B8 false)) (fun a b e=>LR e) h1
 have e4:Ad (B0 false) p.threads q.threads=true:=Ji (q:=B0 false) (fun a b e=>VD e) h4
 have e5:Ad (B0 false) p.recs q.recs=true:=Ji (q:=B0 false) (fun a b e=>VD e) h5
 have e6:Ad (E7 false) p.claims q.claims=true:=Ji (q:=E7 false) (fun a b e=>QBV e) h6
 rw[e1,LR h2,LR h3,e4,e5,e6]
 rfl
structure Ea (L M:List Tok) (i:Nat):Prop where
 len:L.length=M.length
 same:∀j:Nat,i≤j→L[j]?=M[j]?
 last:L.getLast?=M.getLast?
theorem Ea.on {L M:List Tok} {i j:Nat} (h:Ea L M i) (hij:i≤j):Ea L M j:=⟨h.len,fun k hk=>h.same k (by omega),h.last⟩
theorem Ea.refl (L:List Tok) (i:Nat):Ea L L i:=⟨rfl,fun _ _=>rfl,rfl⟩
theorem Ea.isB {L M:List Tok} {i:Nat} (h:Ea L M i) (s:List UInt8):isB L i s=isB M i s:=by
 unfold YthfkpalfopdmhaaGreatDoor.isB;rw[Int.toNat_natCast,h.same i (Nat.le_refl _)]
theorem Ea.place {L M:List Tok} {i:Nat} (h:Ea L M i):AT L i=AT M i:=by
 unfold AT;rw[Int.toNat_natCast,h.same i (Nat.le_refl _),h.last]
theorem Ea.plAt {L M:List Tok} {i:Nat} (h:Ea L M i):plAt L i=plAt M i:=by
 unfold YthfkpalfopdmhaaGreatDoor.plAt;rw[h.same i (Nat.le_refl _)]
theorem Ea.sign {L M:List Tok} {i:Nat} (h:Ea L M i) (b:Nat):A9 L b i=A9 M b i:=by
 unfold A9
 rw[show(fun op=>En op==(b:Int)&&YthfkpalfopdmhaaGreatDoor.isB L i (A7 op))=(fun op=>En op==(b:Int)&&YthfkpalfopdmhaaGreatDoor.isB M i (A7 op))from funext fun op=>by rw[h.isB]]
theorem Ea.signN {L M:List Tok} {i:Nat} (h:Ea L M i) (b:Nat):signN L b i=signN M b i:=by
 unfold YthfkpalfopdmhaaGreatDoor.signN;rw[h.sign,h.plAt]
theorem Ea.leaf {L M:List Tok} {i:Nat} (h:Ea L M i):Fg L i=Fg M i:=by
 unfold Fg;rw[h.same i (Nat.le_refl _)]
theorem Ea.wrong {L M:List Tok} {i:Nat} (h:Ea L M i) (j:Nat):Ic L j=Ic M j:=by
 unfold Ic;rw[h.len]
theorem QDZ {L M:List Tok} {i:Nat} (h:Ea L M i):∀f:Nat,(∀b k d,i≤k→1≤b→b≤6→Ax L f b k d=Ax M f b k d)∧(∀b x k d,i≤k→1≤b→b≤5→ED L f b x k d=ED M f b x k d)∧(∀k d,i≤k→BX L f k d=BX M f k d):=by
 intro f
 induction f with
 |zero=>exact⟨fun b k d _ _ _=>by simp[Ax],fun b x k d _ _ _=>by simp[ED],fun k d _=>by simp[BX]⟩
 |succ f ih=>
  obtain⟨ic,il,is⟩:=ih
  refine⟨fun b k d hk hb hb2=>?_,fun b x k d hk hb hb2=>?_,fun k d hk=>?_⟩
  ·rw[Ax,Ax]
   split
   ·exact is _ _ hk
   ·rw[←ic (b+1) k d hk (by omega) (by omega)]
    cases hc:Ax L f (b+1) k d with
    |none=>rfl
    |some r=>
     cases r with
     |ok x j=>
      have hf:=(Fh L f).1 _ _ _ _ (by omega) (by omega) hc
      have:=hf.1
      exact il _ _ _ _ (by omega) hb (by omega)
     |bad e j=>rfl
  ·rw[ED,ED,(h.on hk).sign,(h.on hk).signN,←ic (b+1) (k+1) d (by omega) (by omega) (by omega)]
   split
   ·rfl
   ·cases hc:Ax L f (b+1) (k+1) d with
    |none=>rfl
    |some r=>
     cases r with
     |ok y j=>
      have hf:=(Fh L f).1 _ _ _ _ (by omega) (by omega) hc
      have:=hf.1
      simp only
      split
      ·rfl
      ·exact il _ _ _ _ (by omega) hb (by omega)
     |bad e j=>rfl
  ·rw[BX,BX,(h.on hk).isB,(h.on hk).sign,(h.on hk).signN,(h.on hk).leaf,←ic 1 (k+1) (d+1) (by omega) (by omega) (by omega),←is (k+1) (d+1) (by omega)]
   split
   ·split
    ·rfl
    ·cases hc:Ax L f 1 (k+1) (d+1)with
     |none=>rfl
     |some r=>
      cases r with
      |ok y j=>
       have hf:=(Fh L f).1 _ _ _ _ (by omega) (by omega) hc
       have:=hf.1
       simp only
       rw[(h.on (show i≤j by omega)).isB,h.wrong]
      |bad e j=>rfl
   ·rfl
theorem Ea.parse {L M:List Tok} {i:Nat} (h:Ea L M i):F9 L i=F9 M i:=by
 unfold F9;rw[h.len,(QDZ h _).1 1 i 0 (Nat.le_refl _) (by omega) (by omega)]
theorem Ea.expr {L M:List Tok} {i:Nat} (h:Ea L M i):EH L i=EH M i:=by
 rw[IQ,IQ,←h.parse]
 have hf:=KP L i
 cases hp:F9 L i with
 |ok x j=>unfold Uh;rw[h.place]
 |bad e j=>
  rw[hp]at hf
  show(⟨[],0,e,AT L j⟩:Parsed)=⟨[],0,e,AT M j⟩
  rw[(h.on hf.2.1).place]
theorem Ea.bad {α:Type} {L M:List Tok} {i:Nat} (h:Ea L M i) (e:Int):(badR L i e:RS α)=badR M i e:=by
 unfold badR;rw[h.len,h.place]
theorem Ea.must {L M:List Tok} {i:Nat} (h:Ea L M i) (s:List UInt8):Bg L i s=Bg M i s:=by
 unfold Bg;rw[h.isB,h.bad]
theorem Ea.name {L M:List Tok} {i:Nat} (h:Ea L M i):BW L i=BW M i:=by
 unfold BW nameAt;rw[h.same i (Nat.le_refl _),h.bad]
theorem Ea.exprP {L M:List Tok} {i:Nat} (h:Ea L M i):exprP L i=exprP M i:=by
 unfold YthfkpalfopdmhaaGreatDoor.exprP;rw[h.expr]
theorem Ea.times {L M:List Tok} {i:Nat} (h:Ea L M i):Dc L i=Dc M i:=by
 unfold Dc;rw[h.same i (Nat.le_refl _),h.bad,h.bad]
theorem Ea.kind {L M:List Tok} {i:Nat} (h:Ea L M i):Ao L i=Ao M i:=by
 unfold Ao
 rw[show(fun k=>decide (2≤k)&&YthfkpalfopdmhaaGreatDoor.isB L i (CO.getD k []))=(fun k=>decide (2≤k)&&YthfkpalfopdmhaaGreatDoor.isB M i (CO.getD k []))from funext fun k=>by rw[h.isB]]
theorem B9 {α β:Type} {L:List Tok} {i:Nat} {r r':RS α} {k k':α→Nat→RS β} (ha:Ec L i r) (h:r=r') (hk:∀a j,i≤j→k a j=k' a j):r.bind k=r'.bind k':=by
 subst h
 cases r with
 |ok a j=>exact hk a j (Nat.le_of_lt ha.1)
 |bad e p=>rfl
theorem BJ {α β:Type} {o o':Option (RS α)} {k k':α→Nat→Option (RS β)} (h:o=o') (hk:∀a j,o=some (.ok a j)→k a j=k' a j):RS.obind o k=RS.obind o' k':=by
 subst h
 rcases o with _|⟨a,j⟩|⟨e,p⟩
 ·rfl
 ·exact hk a j rfl
 ·rfl
theorem Ea.plain {L M:List Tok} {i:Nat} (h:Ea L M i) (k:Nat) (pl:Int):DC L k pl i=DC M k pl i:=by
 unfold DC
 repeat' split
 ·exact B9 (Aq L i) h.name fun r j hj=>B9 (Ae L j _) ((h.on hj).must _) fun _ j2 hj2=>B9 (BQ L j2) (h.on (Nat.le_trans hj hj2)).exprP fun _ _ _=>rfl
 ·exact B9 (Aq L i) h.name fun r j hj=>B9 (Ae L j _) ((h.on hj).must _) fun _ j2 hj2=>B9 (Aq L j2) (h.on (Nat.le_trans hj hj2)).name fun _ _ _=>rfl
 ·exact B9 (Aq L i) h.name fun r j hj=>B9 (Ae L j _) ((h.on hj).must _) fun _ j2 hj2=>B9 (BQ L j2) (h.on (Nat.le_trans hj hj2)).exprP fun _ _ _=>rfl
 ·exact B9 (Aq L i) h.name fun r j hj=>B9 (Ae L j _) ((h.on hj).must _) fun _ j2 hj2=>B9 (Aq L j2) (h.on (Nat.le_trans hj hj2)).name fun _ j3 hj3=>
   B9 (Ae L j3 _) ((h.on (by omega)).must _) fun _ j4 hj4=>B9 (BQ L j4) (h.on (by omega)).exprP fun _ j5 hj5=>B9 (Ae L j5 _) ((h.on (by omega)).must _) fun _ j6 hj6=>B9 (BQ L j6) (h.on (by omega)).exprP fun _ _ _=>rfl
 ·exact B9 (Aq L i) h.name fun _ _ _=>rfl
 ·exact B9 (BQ L i) h.exprP fun _ _ _=>rfl
 ·exact B9 (I2 L i) h.times fun _ _ _=>rfl
 ·rfl
def TP (L M:List Tok) (i:Nat) (f:Nat):Prop:=∀k d l,i≤k→k≤L.length→Ci L f k d l=Ci M f k d l
theorem Rl {L M:List Tok} {i f:Nat} (h:Ea L M i) (hr:TP L M i f) {k d l:Nat} (hk:i≤k):Bz (Ci L f) L k d l=Bz (Ci M f) M k d l:=by
 unfold Bz
 rw[(h.on hk).isB,(h.on hk).bad]
 split
 ·rfl
 ·refine BJ (by rw[(h.on hk).must]) fun _ j hj=>?_
  have a:=Ae L k [123]
  rw[Option.some.inj hj]at a
  have a1:=a.1
  refine BJ (hr _ _ _ (by omega) a.2) fun b j2 hj2=>?_
  have a2:=FP L f _ _ _ _ a.2 hj2
  have a3:=a2.1
  exact BJ (by rw[(h.on (show i≤j2 by omega)).must]) fun _ _ _=>rfl
theorem QBW {L M:List Tok} {i f:Nat} (h:Ea L M i) (hr:TP L M i f) {q k d l:Nat} (hk:i≤k):Df (Ci L f) L q k d l=Df (Ci M f) M q k d l:=by
 unfold Df
 rw[(h.on hk).isB,Rl h hr (by omega)]
theorem QDa {L M:List Tok} {i f:Nat} (h:Ea L M i) (hr:TP L M i f) {k d l:Nat} (hk:i≤k):GO (Ci L f) L k d l=GO (Ci M f) M k d l:=by
 unfold GO
 rw[←(h.on hk).kind,(h.on hk).bad,(h.on hk).place,(h.on (show i≤(if Ao L k=1 then k else k+1) by split<;>omega)).plain]
 split
 ·rfl
 ·refine BJ rfl fun s j hj=>?_
  have a:=G7 L k
  unfold Dz at a
  rw[(h.on hk).place,(h.on (show i≤(if Ao L k=1 then k else k+1) by split<;>omega)).plain,Option.some.inj hj]at a
  have a1:=a.1
  split
  ·exact BJ (by rw[(h.on (show i≤j by omega)).must]) fun _ _ _=>rfl
  ·refine BJ (Rl h hr (by omega)) fun b j2 hj2=>?_
   have a2:=Hi (FP L f) hj2
   have a3:=a2.1
   exact BJ (QBW h hr (by omega)) fun _ _ _=>rfl
theorem QDb {L M:List Tok} {i:Nat} (h:Ea L M i):∀f,TP L M i f:=by
 intro f
 induction f with
 |zero=>intro k d l _ _;rfl
 |succ f ih=>
  intro k d l hk hl
  rw[DI,DI,(h.on hk).isB]
  split
  ·rfl
  ·refine BJ (QDa h ih hk) fun o j hj=>?_
   have a:=JX (FP L f) hj
   have a1:=a.1
   exact BJ (ih _ _ _ (by omega) a.2) fun _ _ _=>rfl
theorem QL {L M:List Tok} {i:Nat} (h:Ea L M i) (hi:i≤L.length) {f o:Nat} {p:Int} (hp:AT L o=p):Fo L f i o=RS.obind (Ci M f i 0 0) fun b j=>RS.obind (some (Bg M j [125])) fun _ k=>if 40<b.count then some (.bad 2 p)else some (.ok b.flat k):=by
 unfold Fo
 refine BJ (QDb h f _ _ _ (Nat.le_refl _) hi) fun b j hj=>?_
 have a:=FP L f _ _ _ _ hi hj
 have a1:=a.1
 refine BJ (by rw[(h.on a1).must]) fun _ k _=>?_
 rw[hp]
theorem TQ (L:List Tok) (i:Nat):E5 L i=QAw L i (Fe L i 0 0):=by
 unfold E5;rw[if_neg (by omega),Int.toNat_natCast]
theorem Xq {L:List Tok} {i:Nat} {er p:Int} (h:Fe L i 0 0=.bad er p):E5 L i=⟨[],0,er,p⟩:=by rw[TQ,h];rfl
theorem QDc {L:List Tok} {i:Nat} {t:Bk} {j:Nat} (h:Fe L i 0 0=.ok t j) (hc:40<t.count):E5 L i=⟨[],0,2,AT L i⟩:=by rw[TQ,h];show(if 40<t.count then _ else _)=_;rw[if_pos hc]
theorem QEy {L:List Tok} {i:Nat} {t:Bk} {j:Nat} (h:Fe L i 0 0=.ok t j) (hc:¬40<t.count):E5 L i=⟨t.flat,j,0,0⟩:=by rw[TQ,h];show(if 40<t.count then _ else _)=_;rw[if_neg hc]
theorem LS {L M:List Tok} {k o f:Nat} (h:Ea L M (k+1)) (hb:isB M k [123]=true) (hp:AT M k=AT L o) {r:RS (List Stm)} (hr:Fo L f (k+1) o=some r):
  (∃b m,r=.ok b m∧E5 M k=⟨b,m,0,0⟩)∨(∃e p,r=.bad e p∧e≠0∧E5 M k=⟨[],0,e,p⟩):=by
 have hkM:=Bt hb
 have hkL:k+1≤L.length:=by rw[h.len];omega
 have hne:=Gz hkL hr
 rw[QL h hkL rfl]at hr
 have hm:Bg M k [123]=.ok () (k+1):=by unfold Bg;rw[if_pos hb]
 have hblk:Bz (Ci M f) M k 0 0=RS.obind (Ci M f (k+1) 0 0) fun b j=>RS.obind (some (Bg M j [125])) fun _ j=>some (.ok b j):=by
  unfold Bz;rw[if_neg (by omega),hm];rfl
 rcases RS.obind_some hr with⟨b,j,h1,h2⟩|⟨e,p,h1,rfl⟩
 ·rcases RS.obind_some h2 with⟨_,m,h3,h4⟩|⟨e,p,h3,rfl⟩
  ·have hB:Fe M k 0 0=.ok b m:=Ns (f:=f) (by rw[hblk,h1,RS.obind_ok,h3];rfl)
   split at h4
   ·rename_i hc
    obtain rfl:=Option.some.inj h4
    exact .inr ⟨2,_,rfl,by decide,by rw[QDc hB hc,hp]⟩
   ·rename_i hc
    obtain rfl:=Option.some.inj h4
    exact .inl ⟨_,m,rfl,QEy hB hc⟩
  ·have hB:Fe M k 0 0=.bad e p:=Ns (f:=f) (by rw[hblk,h1,RS.obind_ok,h3];rfl)
   exact .inr ⟨e,p,rfl,hne,Xq hB⟩
 ·have hB:Fe M k 0 0=.bad e p:=Ns (f:=f) (by rw[hblk,h1];rfl)
  exact .inr ⟨e,p,rfl,hne,Xq hB⟩
end Go.Proofs.YthfkpalfopdmhaaGreatDoor
namespace Go.Proofs.YthfkpalfopdmhaaGreatDoor
open Go
section
variable {L M:List Tok} {i:Nat}
theorem Ea.numAt (h:Ea L M i):numAt L i=numAt M i:=by
 unfold YthfkpalfopdmhaaGreatDoor.numAt;rw[h.same i (Nat.le_refl _)]
theorem Ea.cel (h:Ea L M i) (num:Bool):Fj num L i=Fj num M i:=by
 unfold Fj
 refine B9 (Aq L i) h.name fun s j hj=>?_
 rw[(h.on hj).isB,(h.on (show i≤j+1 by omega)).numAt,(h.on (show i≤j+1 by omega)).bad,h.place]
theorem Ea.cels (h:Ea L M i) (num:Bool):∀f k,i≤k→Bc num L f k=Bc num M f k:=by
 intro f
 induction f with
 |zero=>intro k _;rfl
 |succ f ih=>
  intro k hk
  unfold Bc
  refine BJ (by rw[(h.on hk).cel]) fun c j hj=>?_
  have a:=Gy num L k
  rw[Option.some.inj hj]at a
  have a1:=a.1
  rw[(h.on (show i≤j by omega)).isB]
  split
  ·exact BJ (ih _ (by omega)) fun _ _ _=>rfl
  ·exact BJ (by rw[(h.on (show i≤j by omega)).must]) fun _ _ _=>rfl
theorem Ea.claim (h:Ea L M i) (pl:Int):E8 L i pl=E8 M i pl:=by
 unfold E8
 exact B9 (BQ L i) h.exprP fun e j hj=>B9 (Ae L j _) ((h.on hj).must _) fun _ _ _=>rfl
theorem Ea.rest (h:Ea L M i) {o f:Nat} (hi:i≤L.length) (ho:AT L o=AT M o):Fo L f i o=Fo M f i o:=by
 rw[QL h hi rfl,QL (L:=M) (M:=M) (Ea.refl M i) (by rw[←h.len];exact hi) rfl,ho]
theorem Ea.regs (h:Ea L M i) (f:Nat):GM L f i=GM M f i:=by
 unfold GM
 rw[h.isB,h.cels false f (i+1) (by omega)]
theorem Ea.thr (h:Ea L M i) (f:Nat) (name:List UInt8) (pl:Int):II L f i name pl=II M f i name pl:=by
 unfold II
 refine BJ (by rw[h.must]) fun _ j hj=>?_
 have a:=Ae L i [123]
 rw[Option.some.inj hj]at a
 have a1:=a.1
 refine BJ ((h.on (show i≤j by omega)).regs f) fun rs k hk=>?_
 have a2:=Is a.2 hk
 have a3:=a2.1
 exact BJ ((h.on (show i≤k by omega)).rest a2.2 h.place) fun _ _ _=>rfl
theorem Ea.thread (h:Ea L M i) (f:Nat):DT L f i=DT M f i:=by
 have hpl:AT L ((i:Int)+1)=AT M ((i:Int)+1):=by simpa using(h.on (show i≤i+1 by omega)).place
 unfold DT
 rw[hpl]
 refine BJ (by rw[(h.on (show i≤i+1 by omega)).name]) fun s j hj=>?_
 have a:=Aq L (i+1)
 rw[Option.some.inj hj]at a
 have a1:=a.1
 exact(h.on (show i≤j by omega)).thr f s _
theorem Rm {α:Type} {F:Nat} {kw:List UInt8} {p q:Nat→Option (RS α)} (h:Ea L M i) (hp:OA L F kw p) (hpq:∀k,i≤k→p k=q k):∀f k,i≤k→Bj L kw p f k=Bj M kw q f k:=by
 intro f
 induction f with
 |zero=>intro k _;rfl
 |succ f ih=>
  intro k hk
  unfold Bj
  rw[(h.on hk).isB]
  split
  ·rename_i hb
   rw[←(h.on hk).isB]at hb
   refine BJ (hpq k hk) fun a j hj=>?_
   have a:=hp.ahead _ _ hb hj
   have a1:=a.1
   exact BJ (ih _ (by omega)) fun _ _ _=>rfl
  ·rfl
theorem Ea.recs (h:Ea L M i) (f:Nat):KL L f i=KL M f i:=by
 unfold KL
 rw[h.isB,h.place]
 split
 ·exact BJ ((h.on (show i≤i+1 by omega)).thr f _ _) fun _ _ _=>rfl
 ·rfl
end
def QBX (L:List Tok) (F i:Nat):Option (RS (List Cel)):=Bc true L F (i+1)
def QEz (L:List Tok) (F i:Nat):Option (RS (List Cel)):=Bc false L F (i+1)
def Wq (L:List Tok) (i:Nat):Option (RS Clm):=some (E8 L (i+1) (AT L i))
def fut5 (L:List Tok) (f i:Nat) (p:Prg):Option (RS Prg):=RS.obind (Bj L CH (Wq L) f i) fun cs j=>some (L6 L j {p with claims:=p.claims++cs})
def fut4 (L:List Tok) (F i:Nat) (p:Prg):Option (RS Prg):=RS.obind (KL L F i) fun rs j=>fut5 L F j {p with recs:=p.recs++rs}
def fut3 (L:List Tok) (F f i:Nat) (p:Prg):Option (RS Prg):=RS.obind (Bj L DJ (DT L F) f i) fun ts j=>fut4 L F j {p with threads:=p.threads++ts}
def TR (L:List Tok) (F f i:Nat) (p:Prg):Option (RS Prg):=RS.obind (Bj L Eo (QEz L F) f i) fun ks j=>fut3 L F F j {p with locks:=p.locks++ks.flatten}
def TS (L:List Tok) (F f i:Nat) (p:Prg):Option (RS Prg):=RS.obind (Bj L Iz (QBX L F) f i) fun vs j=>TR L F F j {p with vols:=p.vols++vs.flatten}
def VE (L:List Tok) (F f i:Nat) (p:Prg):Option (RS Prg):=RS.obind (Bj L FX (QBX L F) f i) fun ls j=>TS L F F j {p with lines:=p.lines++ls}
theorem QDd (L:List Tok) (F:Nat):GW L F=VE L F F 0 noPg:=rfl
theorem It {α β:Type} {L:List Tok} {kw:List UInt8} {p:Nat→Option (RS α)} {f i:Nat} {K:List α→Nat→Option (RS β)} {r:RS β} (h:RS.obind (Bj L kw p f i) K=some r) (hb:isB L i kw=true):
  ∃f',f=f'+1∧((∃a j,p i=some (.ok a j)∧RS.obind (Bj L kw p f' j) (fun l k=>K (a::l) k)=some r)∨(∃e q,p i=some (.bad e q)∧r=.bad e q)):=by
 cases f with
 |zero=>simp[Bj]at h
 |succ f=>
  refine⟨f,rfl,?_⟩
  unfold Bj at h
  rw[if_pos hb]at h
  rcases hp:p i with _|⟨a,j⟩|⟨e,q⟩
  ·rw[hp]at h;simp at h
  ·refine .inl ⟨a,j,rfl,?_⟩
   rw[hp]at h
   simp only[RS.obind_ok]at h
   rcases hq:Bj L kw p f j with _|⟨l,k⟩|⟨e,q⟩
   ·rw[hq]at h;simp at h
   ·rw[hq]at h;simpa using h
   ·rw[hq]at h;simpa using h
  ·refine .inr ⟨e,q,rfl,?_⟩
   rw[hp]at h;simpa using h.symm
theorem Iu {α β:Type} {L:List Tok} {kw:List UInt8} {p:Nat→Option (RS α)} {f i:Nat} {K:List α→Nat→Option (RS β)} {r:RS β} (h:RS.obind (Bj L kw p f i) K=some r) (hb:isB L i kw=false):K [] i=some r:=by
 cases f with
 |zero=>simp[Bj]at h
 |succ f=>
  unfold Bj at h
  rw[if_neg (by rw[hb];simp)]at h
  simpa using h
section
variable {L:List Tok} {F f i:Nat} {p:Prg} {r:RS Prg}
theorem ZY (h:VE L F f i p=some r) (hb:isB L i FX=true):∃f',f=f'+1∧((∃a j,Bc true L F (i+1)=some (.ok a j)∧VE L F f' j {p with lines:=p.lines++[a]}=some r)∨(∃e q,Bc true L F (i+1)=some (.bad e q)∧r=.bad e q)):=by
 obtain⟨f',hf,h1⟩:=It h hb
 refine⟨f',hf,h1.imp (fun⟨a,j,h2,h3⟩=>⟨a,j,h2,?_⟩) id⟩
 unfold VE;simpa using h3
theorem ZZ (h:VE L F f i p=some r) (hb:isB L i FX=false):TS L F F i p=some r:=by have:=Iu h hb;simpa using this
theorem Za (h:TS L F f i p=some r) (hb:isB L i Iz=true):∃f',f=f'+1∧((∃a j,Bc true L F (i+1)=some (.ok a j)∧TS L F f' j {p with vols:=p.vols++a}=some r)∨(∃e q,Bc true L F (i+1)=some (.bad e q)∧r=.bad e q)):=by
 obtain⟨f',hf,h1⟩:=It h hb
 refine⟨f',hf,h1.imp (fun⟨a,j,h2,h3⟩=>⟨a,j,h2,?_⟩) id⟩
 unfold TS;simpa using h3
theorem Zb (h:TS L F f i p=some r) (hb:isB L i Iz=false):TR L F F i p=some r:=by have:=Iu h hb;simpa using this
theorem Zc (h:TR L F f i p=some r) (hb:isB L i Eo=true):∃f',f=f'+1∧((∃a j,Bc false L F (i+1)=some (.ok a j)∧TR L F f' j {p with locks:=p.locks++a}=some r)∨(∃e q,Bc false L F (i+1)=some (.bad e q)∧r=.bad e q)):=by
 obtain⟨f',hf,h1⟩:=It h hb
 refine⟨f',hf,h1.imp (fun⟨a,j,h2,h3⟩=>⟨a,j,h2,?_⟩) id⟩
 unfold TR;simpa using h3
theorem Zd (h:TR L F f i p=some r) (hb:isB L i Eo=false):fut3 L F F i p=some r:=by have:=Iu h hb;simpa using this
theorem Ze (h:fut3 L F f i p=some r) (hb:isB L i DJ=true):∃f',f=f'+1∧((∃a j,DT L F i=some (.ok a j)∧fut3 L F f' j {p with threads:=p.threads++[a]}=some r)∨(∃e q,DT L F i=some (.bad e q)∧r=.bad e q)):=by
 obtain⟨f',hf,h1⟩:=It h hb
 refine⟨f',hf,h1.imp (fun⟨a,j,h2,h3⟩=>⟨a,j,h2,?_⟩) id⟩
 unfold fut3;simpa using h3
theorem Zf (h:fut3 L F f i p=some r) (hb:isB L i DJ=false):fut4 L F i p=some r:=by have:=Iu h hb;simpa using this
theorem Zg (h:fut4 L F i p=some r) (hb:isB L i BU=true):(∃a j,II L F (i+1) [] (AT L i)=some (.ok a j)∧fut5 L F j {p with recs:=p.recs++[a]}=some r)∨(∃e q,II L F (i+1) [] (AT L i)=some (.bad e q)∧r=.bad e q):=by
 unfold fut4 KL at h
 rw[if_pos hb]at h
 rcases hp:II L F (i+1) [] (AT L i)with _|⟨a,j⟩|⟨e,q⟩
 ·rw[hp]at h;simp at h
 ·rw[hp]at h;exact .inl ⟨a,j,rfl,by simpa using h⟩
 ·rw[hp]at h;exact .inr ⟨e,q,rfl,by simpa using h.symm⟩
theorem Zh (h:fut4 L F i p=some r) (hb:isB L i BU=false):fut5 L F i p=some r:=by
 unfold fut4 KL at h
 rw[if_neg (by rw[hb];simp)]at h
 simpa using h
theorem Zi (h:fut5 L f i p=some r) (hb:isB L i CH=true):∃f',f=f'+1∧((∃a j,E8 L (i+1) (AT L i)=.ok a j∧fut5 L f' j {p with claims:=p.claims++[a]}=some r)∨(∃e q,E8 L (i+1) (AT L i)=.bad e q∧r=.bad e q)):=by
 obtain⟨f',hf,h1⟩:=It h hb
 refine⟨f',hf,h1.imp (fun⟨a,j,h2,h3⟩=>⟨a,j,Option.some.inj h2,?_⟩) (fun⟨e,q,h2,h3⟩=>⟨e,q,Option.some.inj h2,h3⟩)⟩
 unfold fut5;simpa using h3
theorem Rn (h:fut5 L f i p=some r) (hb:isB L i CH=false):L6 L i p=r:=by have:=Iu h hb;simpa using this
theorem QBY (h:fut5 L f i p=some r) (hb:isB L i BU=true):r=badR L i 5:=by
 have hi:=Bt hb
 have h2:=Rn h (by
  cases hq:isB L i CH with
  |false=>rfl
  |true=>
   unfold isB at hb hq
   rw[Int.toNat_natCast,List.getElem?_eq_getElem hi]at hb hq
   simp at hb hq
   rw[hb.2]at hq
   exact absurd hq.2 (by decide))
 rw[←h2];unfold L6;rw[if_pos hi]
end
section
variable {L M:List Tok} {F f i:Nat} {p:Prg}
theorem Ea.fut5 (h:Ea L M i):fut5 L f i p=fut5 M f i p:=by
 unfold YthfkpalfopdmhaaGreatDoor.fut5
 refine BJ (Rm (F:=f) (q:=Wq M) h (FG L f) (fun k hk=>?_) f i (Nat.le_refl _)) fun cs j hj=>?_
 ·unfold Wq;rw[(h.on hk).place,(h.on (show i≤k+1 by omega)).claim]
 ·rcases Nat.lt_or_ge i (L.length+1)with hi|hi
  ·have a:=BD (FG L f) f i _ (by omega) hj
   have a1:=a.1
   unfold L6;rw[h.len,(h.on a1).bad]
  ·cases f with
   |zero=>simp[Bj]at hj
   |succ f=>
    unfold Bj at hj
    rw[if_neg (by intro hb;have:=Bt hb;omega)]at hj
    obtain⟨-,rfl⟩:[]=cs∧i=j:=by simpa using hj
    unfold L6;rw[h.len,h.bad]
theorem Ea.fut4 (h:Ea L M i) (hi:i≤L.length):fut4 L F i p=fut4 M F i p:=by
 unfold YthfkpalfopdmhaaGreatDoor.fut4
 refine BJ (h.recs F) fun rs j hj=>?_
 have a:=Jh hi hj
 exact(h.on a.1).fut5
theorem Ea.fut3 (h:Ea L M i) (hi:i≤L.length):fut3 L F f i p=fut3 M F f i p:=by
 unfold YthfkpalfopdmhaaGreatDoor.fut3
 refine BJ (Rm (F:=F) h (D8 L F) (fun k hk=>(h.on hk).thread F) f i (Nat.le_refl _)) fun ts j hj=>?_
 have a:=BD (D8 L F) f i _ hi hj
 exact(h.on a.1).fut4 a.2
end
end Go.Proofs.YthfkpalfopdmhaaGreatDoor
namespace Go.Proofs.YthfkpalfopdmhaaGreatDoor
open Go
theorem Xy (x:Ex) (h:x.ok):(E0 x).ok:=by
 induction x with
 |leaf a=>exact h
 |un a x ih=>exact⟨h.1,ih h.2⟩
 |bin a x y h1 h2=>exact⟨h.1,h1 h.2.1,h2 h.2.2⟩
theorem QBz {a:Nod} (h:CN a=true):CN (bareN a)=true:=by
 obtain⟨a1,a2,a3,a4⟩:=a
 unfold CN at h⊢
 simp only[Bool.and_eq_true]at h
 simp only[bareN,Bool.and_eq_true]
 exact⟨⟨rfl,rfl⟩,h.2⟩
theorem JA {L:List Nod} (h:BZ L=true):BZ (L.map bareN)=true:=by
 obtain⟨x,_,ho,rfl,h1,h2,h3⟩:=Jt h
 rw[←GK,PD (Xy x ho),IS,IR,GK]
 rw[B7]at h1
 simp only[Bool.and_eq_true,decide_eq_true_eq,List.all_map,List.all_eq_true,Function.comp]at h2⊢
 exact⟨⟨h1,fun a ha=>QBz (h2 a ha)⟩,h3⟩
theorem Zu {s:Stm} (h:Dy s=true):Dy (bareS s)=true:=by
 obtain⟨x1,x2,x3,x4,x5,x6,x7,x8,x9⟩:=s
 simp only[bareS]
 unfold Dy at h⊢
 simp only[Bool.and_eq_true]at h⊢
 obtain⟨⟨⟨⟨⟨⟨⟨⟨a1,a2⟩,a3⟩,a4⟩,a5⟩,a6⟩,a7⟩,a8⟩,a9⟩:=h
 refine⟨⟨⟨⟨⟨⟨⟨⟨a1,a2⟩,rfl⟩,rfl⟩,a5⟩,a6⟩,?_⟩,?_⟩,a9⟩
 ·split at a7
  ·rename_i hc;rw[if_pos hc];exact JA a7
  ·rename_i hc;rw[if_neg hc];simpa using a7
 ·split at a8
  ·rename_i hc;rw[if_pos hc];exact JA a8
  ·rename_i hc;rw[if_neg hc];simpa using a8
theorem Ru {b:Bk} (h:b.fit):(FW b).fit:=by
 induction b with
 |nil=>trivial
 |cons s b e r h1 h2 h3=>
  obtain⟨a1,a2,a3,a4,a5,a6,a7⟩:=h
  refine⟨?_,?_,?_,?_,h1 a5,h2 a6,h3 a7⟩
  ·rw[EU];exact a1
  ·rw[EU];exact a2
  ·rw[EU];exact a3
  ·rw[EU];exact a4
theorem Zv (b:Bk):∀l,(FW b).brk l=b.brk l:=by
 induction b with
 |nil=>intro l;rfl
 |cons s b e r h1 h2 h3=>
  intro l
  simp only[FW,Bk.brk,h1,h2,h3]
  rfl
theorem VK {L:List Stm} (h:CJ L=true):CJ (L.map bareS)=true:=by
 obtain⟨b,rfl,⟨hf,hg⟩,h1,h2,h3,_⟩:=DX h
 rw[←Im]
 refine OM ⟨Ru hf,?_⟩ (by rw[EU];exact h1) (by rw[Zv];exact h2) (by rw[Wc];exact h3)
 rw[Im]
 simp only[List.all_map,List.all_eq_true,Function.comp]at hg⊢
 exact fun s hs=>Zu (hg s hs)
theorem Qa {m:Int} {c:Cel} (h:Aw m c=true):Aw m (bareCel c)=true:=by
 unfold Aw at h⊢
 simp only[Bool.and_eq_true]at h
 simp only[bareCel,Bool.and_eq_true]
 exact⟨h.1,rfl⟩
theorem VL {b:Bool} {t:Thr} (h:Bh b t=true):Bh b (Br t)=true:=by
 unfold Bh at h⊢
 simp only[Bool.and_eq_true]at h
 simp only[Br,Bool.and_eq_true]
 exact⟨⟨⟨h.1.1.1,rfl⟩,VK h.1.2⟩,h.2⟩
theorem QB0 {c:Clm} (h:Ef c=true):Ef (DR c)=true:=by
 unfold Ef at h⊢
 simp only[Bool.and_eq_true]at h
 simp only[DR,Bool.and_eq_true]
 exact⟨rfl,JA h.2⟩
theorem Iw {α:Type} {q:α→Bool} {g:α→α} (h:∀a,q a=true→q (g a)=true) {l:List α} (hl:l.all q=true):(l.map g).all q=true:=by
 simp only[List.all_map,List.all_eq_true,Function.comp]at hl⊢
 exact fun a ha=>h a (hl a ha)
theorem Zw {l:List Cel} (h:EC l=true):EC (l.map bareCel)=true:=by
 unfold EC at h⊢
 simp only[Bool.and_eq_true]at h⊢
 exact⟨by simpa using h.1,Iw (q:=Aw most32) (fun _=>Qa) h.2⟩
theorem XA {p:Prg} (h:BP p=true):BP (Cm p)=true:=by
 unfold BP at h⊢
 simp only[Bool.and_eq_true]at h
 simp only[Cm,Bool.and_eq_true]
 obtain⟨⟨⟨⟨⟨⟨a1,a2⟩,a3⟩,a4⟩,a5⟩,a6⟩,a7⟩:=h
 exact⟨⟨⟨⟨⟨⟨Iw (q:=EC) (fun _=>Zw) a1,Iw (q:=Ef) (fun _=>QB0) a2⟩,Iw (q:=Aw most32) (fun _=>Qa) a3⟩,Iw (q:=Aw 0) (fun _=>Qa) a4⟩,Iw (q:=Bh true) (fun _=>VL) a5⟩,Iw (q:=Bh false) (fun _=>VL) a6⟩,by simpa using a7⟩
theorem XB (x:Ex):∀b,AZ b (E0 x)=AZ b x:=by
 induction x with
 |leaf a=>intro b;rfl
 |un a x h=>intro b;simp only[E0,AZ,h];rfl
 |bin a x y h1 h2=>intro b;simp only[E0,AZ,h1,h2];rfl
theorem K3 {L:List Nod} (h:BZ L=true):Bi (L.map bareN)=Bi L:=by
 have h2:=JA h
 obtain⟨x,hw,ho,rfl,_⟩:=Jt h
 unfold Bi
 rw[←GK]at h2⊢
 rw[Ia (Xy x ho),hw]
 simp only
 rw[if_pos h2,if_pos h,XB]
theorem XC {s:Stm} (h:Dy s=true):I1 (bareS s)=I1 s:=by
 obtain⟨k,hk,h1,h2⟩:=Hj h
 obtain⟨_,_,_,_,_,he,hf,_⟩:=J2 hk h
 obtain⟨xk,xr,xn,xe,xf,xm,xb,xl,xp⟩:=s
 simp only at hk he hf
 have e1:Bi (xe.map bareN)=Bi xe:=by
  split at he
  ·exact K3 he
  ·rw[List.isEmpty_iff.1 he];rfl
 have e2:Bi (xf.map bareN)=Bi xf:=by
  split at hf
  ·exact K3 hf
  ·rw[List.isEmpty_iff.1 hf];rfl
 show I1 ⟨xk,xr,xn,xe.map bareN,xf.map bareN,xm,xb,xl,0⟩=I1 ⟨xk,xr,xn,xe,xf,xm,xb,xl,xp⟩
 unfold I1
 simp only[e1,e2]
theorem VM (b:Bk):∀ind,b.flat.all Dy=true→Bw ind (FW b)=Bw ind b:=by
 induction b with
 |nil=>intro ind _;rfl
 |cons s b e r h1 h2 h3=>
  intro ind h
  simp only[Bk.flat,List.all_cons,List.all_append,Bool.and_eq_true]at h
  obtain⟨a1,a2,a3,a4⟩:=h
  simp only[FW,Bw,XC a1,h1 _ a2,h2 _ a3,h3 _ a4,EU]
  rfl
theorem XD {L:List Stm} (h:CJ L=true):bodyT (L.map bareS)=bodyT L:=by
 obtain⟨b,rfl,⟨hf,hg⟩,_⟩:=DX h
 unfold bodyT
 rw[←Im,Ie (Ru hf),Ie hf]
 exact VM b _ hg
theorem Qb:∀l:List Cel,Ja (l.map bareCel)=Ja l
 |[]=>rfl
 |[_]=>rfl
 |c::d::l=>by
  have:=Qb (d::l)
  rw[List.map_cons]at this
  simp only[List.map_cons,Ja,this]
  rfl
theorem Rw (w:List UInt8) (l:List Cel):rowT w (l.map bareCel)=rowT w l:=by unfold rowT;rw[Qb]
theorem XE (w:List UInt8) (l:List Cel):KI w (l.map bareCel)=KI w l:=by
 unfold KI
 rw[Rw]
 cases l<;>rfl
theorem NP {b:Bool} {t:Thr} (h:Bh b t=true) (head:List UInt8):Bf head (Br t)=Bf head t:=by
 unfold Bf
 simp only[Br,XD (IW h).2.2.2.1]
theorem NQ {α:Type} {g:α→α} {f:α→List UInt8} {l:List α} (h:∀a∈l,f (g a)=f a):(l.map g).flatMap f=l.flatMap f:=by
 induction l with
 |nil=>rfl
 |cons a l ih=>simp only[List.map_cons,List.flatMap_cons,h a (by simp),ih fun a ha=>h a (by simp[ha])]
theorem Rx {p:Prg} (h:BP p=true):Gu (Cm p)=Gu p:=by
 obtain⟨h1,h2,h3,h4,h5,h6,_⟩:=Kw h
 rw[List.all_eq_true]at h2 h5 h6
 unfold Gu
 simp only[Cm,XE]
 have e1:(p.lines.map (·.map bareCel)).flatMap (rowT FX)=p.lines.flatMap (rowT FX):=NQ (g:=fun l:List Cel=>l.map bareCel) fun l _=>Rw _ l
 have e2:(p.threads.map Br).flatMap threadT=p.threads.flatMap threadT:=NQ fun t ht=>NP (h5 t ht) _
 have e3:(p.recs.map Br).flatMap (Bf BU)=p.recs.flatMap (Bf BU):=NQ fun t ht=>NP (h6 t ht) _
 have e4:(p.claims.map DR).flatMap claimT=p.claims.flatMap claimT:=NQ fun c hc=>by
  have:=h2 c hc
  unfold Ef at this
  rw[Bool.and_eq_true]at this
  unfold claimT DR
  simp only[K3 this.2]
 rw[e1,e2,e3,e4]
theorem OD {p:Prg} (h:BP p=true):Ek p=Gu p:=by unfold Ek;rw[if_pos h]
theorem Zx {p q:Prg} (hp:BP p=true) (hq:BP q=true) (h:Cm q=Cm p):Ek q=Ek p:=by
 rw[OD hp,OD hq,←Rx hq,h,Rx hp]
theorem XF (l:List UInt8) (a:Nat):(AS l a).pl≤a+l.length:=by
 revert l a
 refine MJ (fun a=>?_) (fun c r a h ih=>?_) (fun c r a h h2 ih=>?_) (fun c r a h h2 h3 ih=>?_) (fun c r a h h2 h3=>?_)
 ·exact Nat.zero_le _
 ·rw[AU r a h,List.length_cons];omega
 ·rw[JK r a h h2]
  have e:((c::r).takeWhile IE).length≤(c::r).length:=(List.takeWhile_sublist _).length_le
  rw[List.length_drop]at ih
  omega
 ·rw[Gi r a h h2 h3]
  unfold Found.pre
  by_cases hl:(Ag (c::r)).text.length≤(c::r).length
  ·rw[List.length_drop]at ih
   split
   ·exact Nat.zero_le _
   ·exact Nat.le_trans ih (by omega)
  ·rw[List.drop_eq_nil_of_le (by omega)]
   split
   ·exact Nat.zero_le _
   ·exact Nat.zero_le _
 ·rw[JL r a h h2 h3]
  show a≤_
  omega
theorem QB1 {L:List Tok} {f:Nat} {e pl:Int} (h:GW L f=some (.bad e pl)):e≠0:=by
 unfold GW N7 Re N8 Jb LN at h
 rcases RS.obind_some h with⟨ls,i1,h1,h⟩|⟨_,_,h1,hh⟩
 rotate_left
 ·cases hh;exact BD (C0 true L f _) _ _ _ (Nat.zero_le _) h1
 have a1:=BD (C0 true L f _) _ _ _ (Nat.zero_le _) h1
 rcases RS.obind_some h with⟨vs,i2,h2,h⟩|⟨_,_,h2,hh⟩
 rotate_left
 ·cases hh;exact BD (C0 true L f _) _ _ _ a1.2 h2
 have a2:=BD (C0 true L f _) _ _ _ a1.2 h2
 rcases RS.obind_some h with⟨ks,i3,h3,h⟩|⟨_,_,h3,hh⟩
 rotate_left
 ·cases hh;exact BD (C0 false L f _) _ _ _ a2.2 h3
 have a3:=BD (C0 false L f _) _ _ _ a2.2 h3
 rcases RS.obind_some h with⟨ts,i4,h4,h⟩|⟨_,_,h4,hh⟩
 rotate_left
 ·cases hh;exact BD (D8 L f) _ _ _ a3.2 h4
 have a4:=BD (D8 L f) _ _ _ a3.2 h4
 rcases RS.obind_some h with⟨rs,i5,h5,h⟩|⟨_,_,h5,hh⟩
 rotate_left
 ·cases hh;exact Jh a4.2 h5
 have a5:=Jh a4.2 h5
 rcases RS.obind_some h with⟨cs,i6,h6,h⟩|⟨_,_,h6,hh⟩
 rotate_left
 ·cases hh;exact BD (FG L f) _ _ _ a5.2 h6
 have h:=Option.some.inj h
 unfold L6 at h
 split at h
 ·unfold badR at h
  cases h
  split<;>decide
 ·cases h
theorem QB2 (s:List UInt8) (hl:s.length≤4000):((Bm s).err≠0∧(Bm s).p=noPg∧0≤(Bm s).pl∧(Bm s).pl≤s.length)∨((Bm s).err=0∧(Bm s).pl=0∧BP (Bm s).p=true):=by
 unfold Bm
 rw[if_neg (by omega)]
 by_cases he:(AS s 0).err=0
 ·rw[if_pos he]
  have hTF:TF s.length (AS s 0).toks:=(J0 s).2
  generalize(AS s 0).toks=T at *
  obtain⟨r,hr⟩:=L9 T
  rw[hr]
  show((Rf r).err≠0∧_)∨_
  cases r with
  |ok p j=>exact .inr ⟨rfl,rfl,Wi hl hTF hr⟩
  |bad e pl=>
   have hw:=VC hTF _ _ hr e pl rfl
   exact .inl ⟨QB1 hr,rfl,hw.1,hw.2⟩
 ·rw[if_neg he]
  refine .inl ⟨he,rfl,?_,?_⟩
  ·exact Int.natCast_nonneg _
  ·have:=XF s 0
   show((AS s 0).pl:Int)≤_
   omega
theorem QGn {p:Prg} (h:BP p=true) (hl:(Ek p).length≤4000):∃q,Bm (Ek p)=⟨q,0,0⟩∧BP q=true∧Gv false p q=true∧Ek q=Ek p:=by
 obtain⟨q,h1,h2⟩:=ZT h hl
 have hq:BP q=true:=by
  rcases QB2 (Ek p) hl with⟨e,_⟩|⟨_,_,e⟩
  ·rw[h1]at e;exact absurd rfl e
  ·rw[h1]at e;exact e
 exact⟨q,h1,hq,ZX h2.symm,Zx h hq h2⟩
end Go.Proofs.YthfkpalfopdmhaaGreatDoor

/- Texts of the walk, packed. -/
import Derived.Test.YthfkpalfopdmhaaGreatDoorW20
import Derived.Test.YthfkpalfopdmhaaGreatDoorW15
import Derived.Test.YthfkpalfopdmhaaGreatDoorW00
namespace Go.Proofs.YthfkpalfopdmhaaGreatDoor
open Go.RowKit
def Vb (n:Nat):Prop:=∀(t:Bk) (v:Value) (ind:List UInt8) (w:World),t.count=n->H5 t->n<=40->ind.length+2*n<=100->BG w v t.flat->Tabs w->Calls Tryz.prog 169 #[v,.string ⟨ind.toArray⟩] w (Br (B7 ind t) w)
theorem QB9 {n m:Nat} (ih:∀m,m<n->Vb m) {b:Bk} {v:Value} {ind:List UInt8} {u:ByteArray} {w:World} (hu:u=⟨ind.toArray⟩) (hm:m<n) (hb:b.count=m) (hg:H5 b) (h40:m<=40) (hi:ind.length+2*m<=100) (h:BG w v b.flat) (ht:Tabs w):Calls Tryz.prog 169 #[v,.string u] w (Br (B7 ind b) w):=by
 subst hu;exact ih m hm b v ind w hb hg h40 hi h ht
set_option maxRecDepth 100000 in
set_option maxHeartbeats 4000000 in
theorem SO {n m:Nat} (ih:∀m,m<n->Vb m) {t:Bk} {v:Value} {ind:List UInt8} {w:World} (hm:m<n) (hb:t.count=m) (hg:H5 t) (h40:m<=40) (hi:ind.length+2+2*m<=100) (h:BG w v t.flat) (ht:Tabs w):Calls Tryz.prog 208 #[v,.string ⟨ind.toArray⟩] w (Br (Hv ind t) w):=by
 have IH:=AA ih;have HG:=AA hg;have HB:=AA hb;have HR:=AA h;have HT:=AA ht;obtain⟨LX,hLX⟩:∃LX,B7 (ind++[32,32]) t=LX:=⟨_,rfl⟩
 have hI:(ind++[32,32]).length+2*m<=100:=by rw[List.length_append];simp only[List.length_cons,List.length_nil];omega
 have hl:LX.length<=1000000:=by rw[<-hLX];exact LC hg (by omega) (by omega)
 have HI:=AA hI;have HLX:=AA hLX;have HE:Hid (Hv ind t=[123,10]++LX++ind++[125]):=AA (by unfold Hv;rw[hLX];simp);have hcat1:¬(9223372036854775807<ind.length+2):=by omega
 have hcat2:¬(9223372036854775807<2+LX.length):=by omega
 have hcat3:¬(9223372036854775807<2+LX.length+ind.length):=by omega
 have hcat4:¬(9223372036854775807<2+LX.length+ind.length+1):=by omega
 generalize Hv ind t=R at *;clear ih hg hb ht hI hLX;obtain⟨A,c,rfl,_⟩:=h;go_enter Tryz.func208,Tryz.ntmps208;go_wp2_with fail
 refine(QB9 IH.out (CO ind [32,32]) hm HB.out HG.out h40 HI.out HR.out HT.out).mono ?_;rw[HLX.out];rintro e1 w1 ⟨rfl,hb⟩;have HB1:=AA hb;clear hb;go_wp2_with fail
 go_ret;exact BZ (l':=[123,10]++LX++ind++[125]) (by rw[<-CO,<-CO,<-CO];rfl) HE.out.symm HB1.out
structure KY (w:World) (l:List UInt8) (fb:Nat) (ws:List (List UInt8)) (wq:World):Prop where
 bld:Lib.IsBuilder 93 5 w.heap.size w.heap.size (Lib.byteCells l) wq
 low:Below w.heap.size w wq
 row:∃fr,wq.heap[fb]?=some (.cells (ws.map fun l=>Value.string ⟨l.toArray⟩).toArray 9 fr)
theorem KY.call {w wq w':World} {l:List UInt8} {fb:Nat} {ws:List (List UInt8)} (h:KY w l fb ws wq) (hb:Below wq.heap.size wq w'):KY w l fb ws w':=by
 obtain⟨fr,h3⟩:=h.row;exact⟨ML h.bld hb,AC h.low hb,fr,by rw[hb.block fb (Array.getElem?_eq_some_iff.1 h3).1];exact h3⟩
theorem KY.write {w wq w':World} {l l':List UInt8} {fb:Nat} {ws:List (List UInt8)} (h:KY w l fb ws wq) (hf:w.heap.size<fb) (h1:Lib.IsBuilder 93 5 w.heap.size w.heap.size (Lib.byteCells l') w') (h2:Below w.heap.size wq w') (h3:Lib.OthersKept 5 (some w.heap.size) wq w'):KY w l' fb ws w':=by
 obtain⟨fr,h4⟩:=h.row;exact⟨h1,h.low.trans h2,fr,h3 fb _ h4 (by intro e;cases e;omega) (by intro c fz e;cases e)⟩
theorem KY.cell {w wq:World} {l:List UInt8} {fb:Nat} {ws:List (List UInt8)} (h:KY w l fb ws wq) {k:Nat} {wd:List UInt8} (hk:ws[k]?=some wd):wq.cell? ⟨fb,k,none⟩=some (.string ⟨wd.toArray⟩):=by
 obtain⟨fr,h4⟩:=h.row;rw[cell_of_row wq fb k _ _ fr h4];simp[hk]
theorem KY.lt {w wq:World} {l:List UInt8} {fb:Nat} {ws:List (List UInt8)} (h:KY w l fb ws wq):fb<wq.heap.size:=by
 obtain⟨fr,h4⟩:=h.row;exact(Array.getElem?_eq_some_iff.1 h4).1
theorem Jd (B b:Nat) (l s:List UInt8) {u:ByteArray} {w:World} (hu:u=⟨s.toArray⟩) (h:Lib.IsBuilder 93 5 B b (Lib.byteCells l) w) (hlen:l.length+s.length<=1000000000) (hBw:B<=w.heap.size):
  Calls Tryz.prog 56 #[.pointer (some ⟨b,0,none⟩),.string u] w (T8 B b s.length (l++s) w):=by
 subst hu;exact ES B b l s w h hlen hBw
theorem QCA (ws:List (List UInt8)) (x:Stm) (blk:List UInt8) {k m:Nat} (h:k<=m):(As ws x blk k).length<=(As ws x blk m).length:=by
 induction m with
 |zero=>rw[show k=0 from by omega];exact Nat.le_refl _
 |succ m ih=>
  rcases Nat.lt_or_ge m k with h1|h1
  ·rw[show k=m+1 from by omega];exact Nat.le_refl _
  ·have:=ih h1;show _<=(As ws x blk m++_).length;rw[List.length_append];omega
theorem XN {n:Nat} (h:n<15) {wd:List UInt8} (hw:(BP n)[0]?=some wd):wd≠[98]:=by
 have:∀n:Fin 15,(BP n.1)[0]?≠some [98]:=by decide
 intro e;subst e;exact this ⟨n,h⟩ hw
set_option maxRecDepth 100000 in
set_option maxHeartbeats 8000000 in
theorem Z5 (n:Nat) (ih:∀m,m<n->Vb m):Vb n:=by
 intro t v ind w hn hg h40 hi h ht;have IH:=AA ih;have HRV:=AA h;have HT:=AA ht;have hsz:=LC hg (by omega) (show ind.length<=100 by omega);obtain⟨R,hR⟩:∃R,B7 ind t=R:=⟨_,rfl⟩
 have HR:=AA hR;have HG:=AA hg;rw[hR]at hsz⊢;clear ih ht hg hR;obtain⟨A,c,rfl,hc,hm,_⟩:=h;go_enter Tryz.func169,Tryz.ntmps169;go_upto_region 2 with(fail)
 have HB0:=AA ((Below.refl w.heap.size w).alloc (Nat.le_refl _) (.cells #[.pointer none,.slice none 0 0] 93));have HF:=AA (Lib.fresh_isBuilder 93 5 w);generalize hW:w.alloc (.cells #[.pointer none,.slice none 0 0] 93)=W at *;clear hW;go_loopw [0] (fun v wr=>∃(t':Bk) (l:List UInt8),BG w v t'.flat/\H5 t'/\t'.count<=n/\Lib.IsBuilder 93 5 w.heap.size w.heap.size (Lib.byteCells l) wr/\Below w.heap.size w wr/\l++B7 ind t'=R) (fun v _=>lenV v)
 case atStart=>exact⟨t,[],HRV.out,HG.out,by omega,HF.out,HB0.out,HR.out⟩
 case round=>
  obtain⟨t',l,hr,hg,hct,hbd,hB,hl⟩:=hrel;have HB:=AA hB;have HBD:=AA hbd;have HLL:=AA hl;have HGT:=AA hg;have HRT:=AA hr;clear hB hbd hl hg;obtain⟨A',c',rfl,hc',hm',hr⟩:=hr;cases t' with
  |nil=>
   have HN:Hid (l=R):=AA (by have:=HLL.out;simpa[B7]using this);have hBw:=HB.out.size;clear hr;go_wp2_with fail
   refine(Tryz.Builder_String_any w.heap.size w.heap.size l _ HBD.out hBw).mono ?_;rintro e1 w1 ⟨rfl,hb1⟩;have HB1:=AA (HB.out.trans hb1);clear hb1 hBw;go_wp2_with fail
   go_ret;exact BZ rfl HN.out HB1.out
  |cons s b e r=>
   obtain⟨p1,p2,p3,p4⟩:=MD s b e r HGT.out.1;obtain⟨f1,f2,f3,f4,f5,f6,f7,f8⟩:=IT.1 HGT.out;have HBB:=AA f6;have HEE:=AA f7;have HRR:=AA f8;have HFS:=AA f5;obtain⟨kn,hkn,hk1,hk14⟩:=Ij f5;have hlc:=W9 hkn hk1 hk14 ind b e r;have hLL:=HLL.out;rw[hlc]at hLL;have P1:=AA p1;have P2:=AA p2;have P3:=AA p3;have P4:=AA p4;have hfl:(Bk.cons s b e r).flat=s::(b.flat++(e.flat++r.flat)):=rfl;have hln:(b.flat++(e.flat++r.flat)).length=b.count+e.count+r.count:=by simp only[List.length_append,BV];omega
   have hcc:b.count+e.count+r.count+1<=n:=hct;have HBK:Hid (e.count=0->KC ind b e=Hv ind b):=AA (fun h=>by unfold KC;rw[if_neg (by omega)];simp);have HBE:Hid (0<e.count->KC ind b e=Hv ind b++([32,101,108,115,101,32]++Hv ind e)):=AA (fun h=>by unfold KC;rw[if_pos h]);generalize KC ind b e=blk at *;have hfull:l.length+ind.length+(As (BP kn) s blk (BP kn).length).length+1<=1000000:=by
    have:=congrArg List.length hLL;simp only[List.length_append,List.length_cons,List.length_nil]at this;omega
   have HLW:=AA hLL;have HKN:=AA hkn;clear p1 p2 p3 p4 hct f1 f2 f3 f4 f5 f6 f7 f8 hLL hlc hkn HLL;rw[hfl]at HRT hr hc'⊢;obtain⟨g,o,AE,nE,cE,AF,nF,cF,rfl,h9⟩:=hr 0 s rfl;have H9:=AA h9;clear hr h9;have hlr:(s::(b.flat++(e.flat++r.flat))).length=(b.count+e.count+r.count)+1:=by rw[List.length_cons,hln]
   have HLN:=AA hln;rw[hlr]at hc' HRT⊢;clear hfl hln;go_wp2_with fail
   refine(QEH _ s (b.flat++(e.flat++r.flat)) w _ HRT.out HB.out P1.out (by rw[HLN.out];omega)).mono ?_;rw[P2.out,P3.out,P4.out];rintro e2 w2 ⟨v1,v2,v3,rfl,r1,r2,r3,hb2⟩;have R1:=AA r1;have R2:=AA r2;have R3:=AA r3;have HB2:=AA (AC HB.out hb2);have HD2:=AA (ML HBD.out hb2);obtain⟨A2,c2,rfl,hc2,_⟩:=r2;rw[BV]at R2 hc2⊢;have hBw:=HB2.out.size;clear r1 r3 hb2;go_wp2_with fail
   refine(ES w.heap.size w.heap.size l ind _ HD2.out (by omega) hBw).mono ?_;rintro e3 w3 ⟨rfl,hd3,hb3,_⟩;have HB3:=AA (HB2.out.trans hb3);have HD3:=AA hd3;have HT3:=AA (HT.out.on HB3.out);have hkn15:kn<15:=by omega
   have hcl:=HT3.out.form hkn15;have htl:=HT3.out.lt;have h9w:=H9.out.on HB3.out;obtain⟨lt9,x0,_⟩:=h9w;rw[HKN.out]at x0;simp only[Nat.zero_mul,Nat.add_zero]at x0;clear hd3 hb3 hBw;have hfl:=OS hkn15;go_wp2_with fail
   refine(Tryz.strings_Fields ⟨(CN kn).toArray⟩ _ (by show(CN kn).length<_;omega) (by simpa using O1 hkn15) HT3.out.space).mono ?_;rw[show(ByteArray.mk (CN kn).toArray).data.toList=CN kn from by simp,NX hkn15];rintro e4 w4 ⟨rfl,rfl⟩;have hfb:w.heap.size<w3.heap.size:=by
    rcases HD3.out with h|h
    ·exact h.lt
    ·exact h.lt
   have HI0:Hid (KY w (l++ind) w3.heap.size (BP kn) (w3.alloc (.cells ((BP kn).map fun l=>Value.string ⟨l.toArray⟩).toArray 9))):=AA (by
    have hb4:=(Below.refl w3.heap.size w3).alloc (Nat.le_refl _) (.cells ((BP kn).map fun l=>Value.string ⟨l.toArray⟩).toArray 9);exact⟨ML HD3.out hb4,AC HB3.out hb4,(0,0),heap_alloc_new w3 _⟩)
   generalize hw4:w3.alloc (.cells ((BP kn).map fun l=>Value.string ⟨l.toArray⟩).toArray 9)=w4 at *;generalize hfbq:w3.heap.size=fb at *;have hwl:=OT hkn15;have HWL:=AA (show∀k wd,(BP kn)[k]?=some wd->wd.length<=6 from fun k wd h=>VR hkn15 h);have HW0:=AA (show∀wd,(BP kn)[0]?=some wd->wd≠[98]from fun wd h=>XN hkn15 h);have HPL:=AA (show∀k,k<=(BP kn).length->(As (BP kn) s blk k).length<=(As (BP kn) s blk (BP kn).length).length from fun k h=>QCA _ s blk h);generalize hws:BP kn=ws at *;clear hw4 hfbq hws hcl htl lt9 x0 HD2 HD3 HB3 HB2 HT3 hfl HB HBD hc'
   obtain⟨m,hmq⟩:∃m,ws.length=m:=⟨_,rfl⟩
   have HM:=AA hmq;rw[hmq]at hwl HPL HLW hfull⊢;clear hmq;go_wp2_with fail
   go_loopw [30] (fun i wq=>∃k:Nat,k<=m/\i=.int .i64 k/\KY w (l++ind++As ws s blk k) fb ws wq) (fun i _=>m-(intOf i).toNat)
   case atStart=>exact⟨0,Nat.zero_le _,rfl,by simpa[As]using HI0.out⟩
   case round=>
    obtain⟨k,hk,rfl,hI⟩:=hrel;have HQ:=AA hI;clear hI;rcases Nat.lt_or_ge k m with hlt|hge;case inr=>
     have hkm:k=m:=by omega
     subst hkm;have HRL:Hid (l++ind++As ws s blk k++[10]++B7 ind r=R):=AA (by rw[<-HLW.out];simp);have hBw:=HQ.out.low.size;go_wp2_with fail
     refine(ES w.heap.size w.heap.size (l++ind++As ws s blk k) [10] _ HQ.out.bld (by simp only[List.length_append,List.length_cons,List.length_nil];omega) hBw).mono ?_;rintro e6 w6 ⟨rfl,hd6,hb6,ho6⟩;have HQ6:=AA (HQ.out.write hfb hd6 hb6 ho6);clear hd6 hb6 ho6 hBw;go_wp2_with fail
     go_roundw;case rel=>exact⟨r,_,R3.out,HRR.out,by omega,HQ6.out.bld,HQ6.out.low,HRL.out⟩
     case measure=>rw[R3.out.lenV,BV];show _<_+1;omega
    case inl=>
    obtain⟨wd,hwd⟩:∃wd,ws[k]?=some wd:=⟨ws[k]'(by rw[HM.out];omega),List.getElem?_eq_getElem _⟩
    have hcw:=HQ.out.cell hwd;have hltb:=HQ.out.lt;have hnx:=Tq hwd s blk;have hpl:=HPL.out (k+1) (by omega);rw[hnx]at hpl;have HWD:=AA hwd;have HNXT:=AA hnx;have hwl6:=HWL.out k wd hwd;have hw1:IntKind.i64.wrap ((k:Int)+1)=(k:Int)+1:=IntWalk.i64_in _ (by omega);clear hwd hnx;by_cases cb:wd=[98]
    ·have hk0:0<k:=by
      rcases Nat.eq_zero_or_pos k with h|h
      ·rw[h]at HWD;exact absurd cb (HW0.out wd HWD.out)
      ·exact h
     have hsp:W7 k wd=true:=by rw[cb];unfold W7;simp[hk0]
     have HNX:Hid (l++ind++As ws s blk (k+1)=l++ind++As ws s blk k++[32]++blk):=AA (by rw[HNXT.out];unfold Lx;rw[if_pos hsp,if_pos cb];simp);have hpp:(As ws s blk k).length+1+blk.length<=(As ws s blk m).length:=by
      unfold Lx at hpl;rw[if_pos hsp,if_pos cb]at hpl;simp only[List.length_append,List.length_cons,List.length_nil]at hpl;omega
     subst cb;have s1':(0:Int)<(k:Int):=by omega
     have hBw:=HQ.out.low.size;obtain⟨bt,hbt⟩:∃bt,Hv ind b=bt:=⟨_,rfl⟩
     have HBT:=AA hbt;have HBL:Hid (bt.length<=blk.length):=AA (by
      rcases Nat.eq_zero_or_pos e.count with h|h
      ·rw[HBK.out h,hbt];exact Nat.le_refl _
      ·rw[HBE.out h,hbt,List.length_append];omega)
     clear hpl hsp hbt;have hbl:=HBL.out;go_wp2_with fail
     refine(ES w.heap.size w.heap.size (l++ind++As ws s blk k) [32] _ HQ.out.bld (by simp only[List.length_append,List.length_cons,List.length_nil];omega) hBw).mono ?_;rintro e6 w6 ⟨rfl,hd6,hb6,ho6⟩;have HQ2:=AA (HQ.out.write hfb hd6 hb6 ho6);clear hd6 hb6 ho6 hBw hcw hltb;go_wp2_with fail
     refine(SO IH.out (show b.count<n by omega) rfl HBB.out (by omega) (by omega) (R1.out.on HQ2.out.low) (HT.out.on HQ2.out.low)).mono ?_;rw[HBT.out];rintro e7 w7 ⟨rfl,hb7⟩;have HQ3:=AA (HQ2.out.call hb7);have hBw:=HQ3.out.low.size;clear hb7;go_wp2_with fail
     refine(ES w.heap.size w.heap.size (l++ind++As ws s blk k++[32]) bt _ HQ3.out.bld (by simp only[List.length_append,List.length_cons,List.length_nil];omega) hBw).mono ?_;rintro e6 w8 ⟨rfl,hd6,hb6,ho6⟩;have HQ4:=AA (HQ3.out.write hfb hd6 hb6 ho6);clear hd6 hb6 ho6 hBw;by_cases he:0<e.count
     ·obtain⟨et,het⟩:∃et,Hv ind e=et:=⟨_,rfl⟩
      have HET:=AA het;have HBQ:Hid (blk=bt++([32,101,108,115,101,32]++et)):=AA (by rw[HBE.out he,HBT.out,het]);have hbl2:bt.length+6+et.length=blk.length:=by rw[HBQ.out];simp only[List.length_append,List.length_cons,List.length_nil];omega
      have hcat:¬(9223372036854775807<6+et.length):=by omega
      have hei:(0:Int)<(e.count:Int):=by omega
      clear het;go_wp2_with fail
      refine(SO IH.out (show e.count<n by omega) rfl HEE.out (by omega) (by omega) (R2.out.on HQ4.out.low) (HT.out.on HQ4.out.low)).mono ?_;rw[HET.out];rintro e9 w9 ⟨rfl,hb9⟩;have HQ5:=AA (HQ4.out.call hb9);have hBw:=HQ5.out.low.size;clear hb9;go_wp2_with fail
      refine(Jd w.heap.size w.heap.size (l++ind++As ws s blk k++[32]++bt) ([32,101,108,115,101,32]++et) (CO [32,101,108,115,101,32] et) HQ5.out.bld (by simp only[List.length_append,List.length_cons,List.length_nil];omega) hBw).mono ?_;rintro e6 w10 ⟨rfl,hd6,hb6,ho6⟩;have HQ6:=AA (HQ5.out.write hfb hd6 hb6 ho6);clear hd6 hb6 ho6 hBw;go_wp2_with fail
      go_roundw;case rel=>exact⟨k+1,by omega,by go_num,by rw[HNX.out,HBQ.out,<-List.append_assoc];rw[HBQ.out]at HQ6;exact HQ6.out⟩
      case measure=>simp[intOf];omega
     ·have he0:e.count=0:=by omega
      have HBQ:Hid (blk=bt):=AA (by rw[HBK.out he0,HBT.out]);have hei:¬(0:Int)<(e.count:Int):=by omega
      clear he0;go_wp2_with fail
      go_roundw;case rel=>exact⟨k+1,by omega,by go_num,by rw[HNX.out];have:=HQ4.out;rw[<-HBQ.out]at this;exact this⟩
      case measure=>simp[intOf];omega
    have cb1:(wd==[98])=false:=beq_eq_false_iff_ne.2 cb;obtain⟨mw,hmw⟩:∃mw,Qb s wd=mw:=⟨_,rfl⟩
    have HMW:=AA hmw;cases hsp:W7 k wd with
    |true=>
     have HNX:Hid (l++ind++As ws s blk (k+1)=l++ind++As ws s blk k++[32]++mw):=AA (by rw[HNXT.out];unfold Lx;rw[if_pos hsp,if_neg cb,HMW.out];simp);have HLE:Hid ((l++ind++As ws s blk k++[32]).length=l.length+ind.length+(As ws s blk k).length+1):=AA (by simp only[List.length_append,List.length_cons,List.length_nil]);have hpp:(As ws s blk k).length+1+mw.length<=(As ws s blk m).length:=by
      unfold Lx at hpl;rw[if_pos hsp,if_neg cb,HMW.out]at hpl;simp only[List.length_append,List.length_cons,List.length_nil]at hpl;omega
     unfold W7 at hsp;simp only[Bool.and_eq_true,Bool.not_eq_true',decide_eq_true_eq,decide_eq_false_iff_not]at hsp;obtain⟨⟨s1,s2⟩,s3⟩:=hsp;have s1':(0:Int)<(k:Int):=by omega
     have s2':(wd==[59])=false:=beq_eq_false_iff_ne.2 s2;have s3':(wd==[44])=false:=beq_eq_false_iff_ne.2 s3;have hBw:=HQ.out.low.size;clear hmw cb s2 s3 hpl;go_wp2_with fail
     refine(ES w.heap.size w.heap.size (l++ind++As ws s blk k) [32] _ HQ.out.bld (by simp only[List.length_append,List.length_cons,List.length_nil];omega) hBw).mono ?_;rintro e6 w6 ⟨rfl,hd6,hb6,ho6⟩;have HQ2:=AA (HQ.out.write hfb hd6 hb6 ho6);clear hd6 hb6 ho6 hBw hcw hltb;have h9q:=H9.out.on HQ2.out.low;obtain⟨lt9,x0,x1,x2,x3,x4,x5,x6,x7,x8,re,rf⟩:=h9q;simp only[Nat.zero_mul,Nat.add_zero]at x0 x1 x2 x3 x4 x5 x6 x7 x8;have HRE:=AA re;have HRF:=AA rf;have HTQ:=AA (HT.out.on HQ2.out.low);clear re rf;go_wp2_with fail
     refine(Ld s wd AE nE cE AF nF cF _ HRE.out HRF.out HFS.out HTQ.out).mono ?_;rw[HMW.out];rintro e5 w5 ⟨rfl,hb5⟩;have HQ5:=AA (HQ2.out.call hb5);have hBw:=HQ5.out.low.size;clear hb5 lt9 x0 x1 x2 x3 x4 x5 x6 x7 x8 HRE HRF HTQ;go_wp2_with fail
     refine(ES w.heap.size w.heap.size (l++ind++As ws s blk k++[32]) mw _ HQ5.out.bld (by rw[HLE.out];omega) hBw).mono ?_;rintro e6 w6 ⟨rfl,hd6,hb6,ho6⟩;have HQ6:=AA (HQ5.out.write hfb hd6 hb6 ho6);clear hd6 hb6 ho6 hBw;go_wp2_with fail
     go_roundw;case rel=>exact⟨k+1,by omega,by go_num,by rw[HNX.out];exact HQ6.out⟩
     case measure=>simp[intOf];omega
    |false=>
     have HNX:Hid (l++ind++As ws s blk (k+1)=l++ind++As ws s blk k++mw):=AA (by rw[HNXT.out];unfold Lx;rw[hsp,if_neg cb,HMW.out];simp);have HLE:Hid ((l++ind++As ws s blk k).length=l.length+ind.length+(As ws s blk k).length):=AA (by simp only[List.length_append]);have hpp:(As ws s blk k).length+mw.length<=(As ws s blk m).length:=by
      unfold Lx at hpl;rw[hsp,if_neg cb,HMW.out]at hpl;simp only[List.length_append]at hpl;omega
     clear hmw hpl;by_cases s1:0<k;case neg=>
      have hk0':¬(0:Int)<(k:Int):=by omega
      clear cb;have h9q:=H9.out.on HQ.out.low;obtain⟨lt9,x0,x1,x2,x3,x4,x5,x6,x7,x8,re,rf⟩:=h9q;simp only[Nat.zero_mul,Nat.add_zero]at x0 x1 x2 x3 x4 x5 x6 x7 x8;have HRE:=AA re;have HRF:=AA rf;have HTQ:=AA (HT.out.on HQ.out.low);clear re rf;go_wp2_with fail
      refine(Ld s wd AE nE cE AF nF cF _ HRE.out HRF.out HFS.out HTQ.out).mono ?_;rw[HMW.out];rintro e5 w5 ⟨rfl,hb5⟩;have HQ5:=AA (HQ.out.call hb5);have hBw:=HQ5.out.low.size;clear hb5 lt9 x0 x1 x2 x3 x4 x5 x6 x7 x8 HRE HRF HTQ;go_wp2_with fail
      refine(ES w.heap.size w.heap.size (l++ind++As ws s blk k) mw _ HQ5.out.bld (by rw[HLE.out];omega) hBw).mono ?_;rintro e6 w6 ⟨rfl,hd6,hb6,ho6⟩;have HQ6:=AA (HQ5.out.write hfb hd6 hb6 ho6);clear hd6 hb6 ho6 hBw;go_wp2_with fail
      go_roundw;case rel=>exact⟨k+1,by omega,by go_num,by rw[HNX.out];exact HQ6.out⟩
      case measure=>simp[intOf];omega
     case pos=>
     have s1':(0:Int)<(k:Int):=by omega
     by_cases s2:wd=[59]
     ·subst s2;have h9q:=H9.out.on HQ.out.low;obtain⟨lt9,x0,x1,x2,x3,x4,x5,x6,x7,x8,re,rf⟩:=h9q;simp only[Nat.zero_mul,Nat.add_zero]at x0 x1 x2 x3 x4 x5 x6 x7 x8;have HRE:=AA re;have HRF:=AA rf;have HTQ:=AA (HT.out.on HQ.out.low);clear re rf;go_wp2_with fail
      refine(Ld s [59] AE nE cE AF nF cF _ HRE.out HRF.out HFS.out HTQ.out).mono ?_;rw[HMW.out];rintro e5 w5 ⟨rfl,hb5⟩;have HQ5:=AA (HQ.out.call hb5);have hBw:=HQ5.out.low.size;clear hb5 lt9 x0 x1 x2 x3 x4 x5 x6 x7 x8 HRE HRF HTQ;go_wp2_with fail
      refine(ES w.heap.size w.heap.size (l++ind++As ws s blk k) mw _ HQ5.out.bld (by rw[HLE.out];omega) hBw).mono ?_;rintro e6 w6 ⟨rfl,hd6,hb6,ho6⟩;have HQ6:=AA (HQ5.out.write hfb hd6 hb6 ho6);clear hd6 hb6 ho6 hBw;go_wp2_with fail
      go_roundw;case rel=>exact⟨k+1,by omega,by go_num,by rw[HNX.out];exact HQ6.out⟩
      case measure=>simp[intOf];omega
     ·have s3:wd=[44]:=by
       unfold W7 at hsp;simp only[s1,s2,decide_true,decide_false,Bool.not_false,Bool.and_self,Bool.true_and,Bool.not_eq_false',decide_eq_true_eq]at hsp;exact hsp
      subst s3;have h9q:=H9.out.on HQ.out.low;obtain⟨lt9,x0,x1,x2,x3,x4,x5,x6,x7,x8,re,rf⟩:=h9q;simp only[Nat.zero_mul,Nat.add_zero]at x0 x1 x2 x3 x4 x5 x6 x7 x8;have HRE:=AA re;have HRF:=AA rf;have HTQ:=AA (HT.out.on HQ.out.low);clear re rf;go_wp2_with fail
      refine(Ld s [44] AE nE cE AF nF cF _ HRE.out HRF.out HFS.out HTQ.out).mono ?_;rw[HMW.out];rintro e5 w5 ⟨rfl,hb5⟩;have HQ5:=AA (HQ.out.call hb5);have hBw:=HQ5.out.low.size;clear hb5 lt9 x0 x1 x2 x3 x4 x5 x6 x7 x8 HRE HRF HTQ;go_wp2_with fail
      refine(ES w.heap.size w.heap.size (l++ind++As ws s blk k) mw _ HQ5.out.bld (by rw[HLE.out];omega) hBw).mono ?_;rintro e6 w6 ⟨rfl,hd6,hb6,ho6⟩;have HQ6:=AA (HQ5.out.write hfb hd6 hb6 ho6);clear hd6 hb6 ho6 hBw;go_wp2_with fail
      go_roundw;case rel=>exact⟨k+1,by omega,by go_num,by rw[HNX.out];exact HQ6.out⟩
      case measure=>simp[intOf];omega
theorem QCB:∀n,Vb n:=fun n=>Nat.strongRecOn n fun n ih=>Z5 n ih
set_option maxRecDepth 100000 in
set_option maxHeartbeats 4000000 in
theorem Z6 (v:Value) (L:List Stm) (w:World) (h:BG w v L) (hs:∀x∈L,Fb x) (ht:Tabs w):Calls Tryz.prog 118 #[v] w (Br (showS L) w):=by
 have HL:=AA h;have HS:=AA hs;have HT:=AA ht;clear hs ht;obtain⟨A,c,rfl,_⟩:=h;go_enter Tryz.func118,Tryz.ntmps118;go_wp2_with fail
 refine(Qa _ L _ HL.out HS.out HT.out).mono ?_;cases hr:CP L with
 |false=>
  have HN:=AA (QBW hr);rintro e w1 ⟨rfl,hb1⟩;go_wp2_with fail
  go_ret;exact BZ (l':=[]) rfl HN.out.symm hb1
 |true=>
  obtain⟨b,hb,g1,g2,g3,g4,g5⟩:=Dq hr;have HN:Hid (showS L=B7 [] b):=AA (by rw[<-hb];exact K0 g1.1 (by rw[hb];exact hr));rintro e w1 ⟨rfl,hb1⟩;have HB1:=AA hb1;have HR1:Hid (BG w1 (.slice A L.length c) b.flat):=AA (by rw[hb];exact HL.out.on hb1);have HG:=AA g1;clear hb g1 g3 g4 g5 hb1;go_wp2_with fail
  refine(QCB b.count b _ [] _ rfl HG.out g2 (by simp;omega) HR1.out (HT.out.on HB1.out)).mono ?_;rw[<-HN.out];rintro e w2 ⟨rfl,hb2⟩;go_wp2_with fail
  go_ret;exact⟨rfl,AC HB1.out hb2⟩
end Go.Proofs.YthfkpalfopdmhaaGreatDoor

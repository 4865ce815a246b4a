/- Texts of the walk, packed. -/
import Derived.Test.YthfkpalfopdmhaaGreatDoorW34
import Derived.Test.YthfkpalfopdmhaaGreatDoorW29
import Derived.Test.YthfkpalfopdmhaaGreatDoorW00
namespace Go.Proofs.YthfkpalfopdmhaaGreatDoor
open Go.RowKit
def UU (acc:List (List UInt8)):RS (List Cel)->RS (List (List UInt8))
 |.ok l j=>.ok (acc++l.map (·.name)) j
 |.bad e q=>.bad e q
theorem QCl {M:List Tok} {i:Nat} {c:Cel} {j:Nat} (h:GW false M i=.ok c j):Bd M i=.ok c.name j/\c.n=0:=by
 rw[Q2]at h;cases hn:Bd M i with
 |bad e q=>rw[hn]at h;cases h
 |ok s k=>
  rw[hn]at h;simp only[RS.bind_ok,RS.ok.injEq]at h;obtain⟨rfl,rfl⟩:=h;exact⟨rfl,rfl⟩
theorem UV {M:List Tok} {i:Nat} {e q:Int} (h:GW false M i=.bad e q):Bd M i=.bad e q:=by
 rw[Q2]at h;cases hn:Bd M i with
 |ok s k=>rw[hn]at h;cases h
 |bad e q=>rw[hn]at h;simpa using h
def QCm (M:List Tok) (B g:Nat) (lv:Value) (p:Pv) (r:RS (List (List UInt8))) (w:World) (e:Ending) (w':World):Prop:=
 ∃v l er,e=.returned (.tuple #[v,.int .i64 er])/\CS w' w.heap.size v l/\l.length<=10000/\AG (fun k=>k=g) w w'/\match r with
 |.ok a j=>er=0/\l=a/\S5 M B g lv j p w'
 |.bad e2 pl=>er=e2/\er≠0/\∃i:Int,Bf w' g lv i p pl
section
variable {M:List Tok} {B g i:Nat} {lv:Value} {p:Pv} {w:World}
set_option maxRecDepth 100000 in
set_option maxHeartbeats 8000000 in
theorem QCn {F:Nat} (eg:Enters F) (hF:∀j w',S5 M B g lv j p w'->Calls Tryz.prog F #[.pointer (some ⟨g,0,none⟩)] w' (V2 M B g lv p (Bd M j) w')) (h:S5 M B g lv i p w) (hi:i<M.length) {f:Nat} {rc:RS (List Cel)} {r:RS (List (List UInt8))} (hrc:UU [] rc=r) (hr:Be false M f (i+1)=some rc):
  Calls Tryz.prog 216 #[.pointer (some ⟨g,0,none⟩),.func (.func F) #[] #[]] w (QCm M B g lv p r w):=by
 obtain⟨i0,hi0,hz0,hz1,hz2⟩:=info_parts PU;have HZ:=AA (show Tryz.prog.info? 9=some i0/\i0.zero=some (.string ⟨#[]⟩)/\i0.size=1/\i0.bytes=16 from⟨hi0,hz0,hz1,hz2⟩);have HF:=AA hF;have HH:=AA h;have HG:=AA eg;have HR:=AA hr;have HRC:=AA hrc;have HL:=AA hi;clear hi0 hz0 hz1 hz2 hF h hr hrc hi eg;go_enter Tryz.func216,Tryz.ntmps216;go_wp2_with fail
 go_loopw [6] (fun v wr=>∃(k:Nat) (acc:List (List UInt8)) (f':Nat) (rr:RS (List Cel)),S5 M B g lv k p wr/\CS wr w.heap.size v acc/\AG (fun q=>q=g) w wr/\k<M.length/\acc.length<=k/\Be false M f' (k+1)=some rr/\UU acc rr=r)
  (fun _ wr=>M.length-(intOf (BM g 1 wr)).toNat)
 case atStart=>exact⟨i,[],f,rc,HH.out,Jg _ _,AG.refl _ _,HL.out,Nat.zero_le _,HR.out,HRC.out⟩
 case round=>
  obtain⟨k,acc,f',rr,hs,ho,hk,hkl,hal,hf,hlink⟩:=hrel;have HO:=AA ho;have HK:=AA hk;have HLK:=AA hlink;have HSR:=AA hs;obtain⟨q0,hb0⟩:=hs.blk;obtain⟨hgl,c0,c1, -, -, -, -, -, -, -,fz⟩:=hb0.cells;have HME:Hid (intOf (BM g 1 wr)=k):=AA (by rw[DZ c1];rfl);have f1:=fz 1;have hlen:=hs.len;have hw1:IntKind.i64.wrap ((k:Int)+1)=(k:Int)+1:=IntWalk.i64_in _ (by omega);have HKL:=AA hkl;have HAL:=AA hal;cases f' with
  |zero=>simp[Be]at hf
  |succ f'=>
  unfold Be at hf;have HFF:=AA hf;obtain⟨A,cc,hv, -, -, -⟩:=AS ho;subst hv;clear hs ho hk hkl hal hf hlink hb0 fz;go_wp2_with fail
  have HS1:Hid (S5 M B g lv (k+1) p (wr.setCell ⟨g,1,none⟩ (.int .i64 ((k:Int)+1)))):=AA (HSR.out.set1 (by have:=HKL.out;omega));have HK1:Hid (AG (fun q=>q=g) wr (wr.setCell ⟨g,1,none⟩ (.int .i64 ((k:Int)+1)))):=AA AG.set;generalize wr.setCell ⟨g,1,none⟩ (.int .i64 ((k:Int)+1))=w1 at *;clear c0 c1 f1 hw1 hgl;have HC:=AA (HF.out _ _ HS1.out);have eg:=HG.out;unfold Enters at eg;go_wp2_with fail
  rw[eg];clear eg;go_wp2_with fail
  refine HC.out.mono ?_;intro e w2 hp;obtain⟨hk2,hp⟩:=hp;have HK2:=AA (Ag HK1.out hk2);have HO2:=AA (AO HO.out HK2.out (fun q hq e=>by
   have h1:=(AI HO.out q hq).1;have h2:=HH.out.lt;omega))
  have HKW:=AA (Ag HK.out HK2.out);clear hk2;rcases RS.obind_some HFF.out with⟨c,j,h1,h2⟩|⟨er,pl,h1,h2⟩
  ·obtain h1:=Option.some.inj h1;have h0:=h1;obtain⟨h1,hcn⟩:=QCl h1;rw[h1]at hp;obtain⟨rfl,hs2⟩:=hp;have aj:=IX false M (k+1);rw[h0]at aj;have aj1:=aj.1;have aj2:=aj.2;have HS2:=AA hs2;have HF2:=AA h2;have hne0:((0:Int) != 0)=false:=by decide
   clear h1 h2 hs2 h0 hcn;obtain⟨cn,ck,cp⟩:=c;go_wp2_with (at_builtin;refine wpList_append_own _ rfl (.tmp 25) (.tmp 27) 38 rfl w.heap.size 9 i0 (.string ⟨#[]⟩) 1 16 Tryz.underlying38 HZ.out.1 HZ.out.2.1 HZ.out.2.2.1 HZ.out.2.2.2 rfl (by decide) _ acc.length (acc.map strV) rfl ?dO ⟨w2.heap.size,0,none⟩ 1 1 ([strV cn]) (by rfl) (by rfl) ?d1 ?d2 ?d3 ?d4 ?d5 ?_)
   case dO=>exact AO HO2.out (AG.of (P:=fun _=>False) ((Below.refl w2.heap.size w2).alloc (Nat.le_refl _) _)) (fun _ _=>id)
   case d1=>exact World.news_of_block (cs:=([strV cn]).toArray) (alloc_at (by simp))
   case d2=>exact PV _
   case d3=>have:=HAL.out;unfold maxLen;omega
   case d4=>have:=HAL.out;omega
   case d5=>have:=HKW.out.size;simp;omega
   intro v5 w5 hown5 hgrow5 _;have hkA:AG (fun q=>q=g) w (w2.alloc (.cells #[.string ⟨cn.toArray⟩] 9)):=AT HKW.out ((Below.refl w2.heap.size w2).alloc (Nat.le_refl _) _);have hoA:(w2.alloc (.cells #[.string ⟨cn.toArray⟩] 9)).ownsRow w.heap.size 9 1 (.slice A acc.length cc) acc.length (acc.map strV):=AO HO2.out (AG.of (P:=fun _=>False) ((Below.refl w2.heap.size w2).alloc (Nat.le_refl _) _)) (fun _ _=>id);have hk5:AG (fun q=>q=g) w w5:=Q6 hkA hoA hgrow5;have HS5:Hid (S5 M B g lv j p w5):=AA (by
    obtain⟨q2,hq2⟩:=HS2.out.blk;refine HH.out.put hk5 (Et (hq2.on ((Below.refl w2.heap.size w2).alloc (Nat.le_refl _) _)) (AG.grown hgrow5) (fun e=>?_)) HS2.out.il;have:=(AI hoA g e).1;have:=HH.out.lt;omega)
   have HO5:Hid (CS w5 w.heap.size v5 (acc++[cn])):=AA (by
    unfold CS;rw[List.length_append];simpa using hown5)
   have HK5:=AA hk5;obtain⟨A5,n5,c5,rfl⟩:∃A n c,v5=.slice A n c:=by
    obtain⟨A,c,hv,_⟩:=AS hown5;exact⟨A,_,c,hv⟩
   clear hkA hoA hk5 hown5 hgrow5;go_wp2_with fail
   obtain⟨q5,hb5⟩:=HS5.out.blk;obtain⟨hgl,c0,c1, -, -, -, -, -, -, -, -⟩:=hb5.cells;clear hb5;cases hq:isB M j [44]with
   |true=>
    have HQ:=AA hq;have hjl:=Bl hq;have h3:=HF2.out;rw[if_pos hq]at h3;clear hq;go_region_held3 (fun w'=>w'.cell? ⟨g,0,none⟩=some lv/\w'.cell? ⟨g,1,none⟩=some (.int .i64 j)/\Below w5.heap.size w5 w')
     (first|exact⟨c0,c1,Below.refl _ _⟩|exact⟨c0,c1,AD _⟩|exact⟨(hb1.cell (p:=⟨g,0,none⟩) hgl).trans c0,(hb1.cell (p:=⟨g,1,none⟩) hgl).trans c1,AC (AD _) hb1⟩)
     (first|(go_at_call 77;refine(Re HS5.out HQ.out (AD _)).mono ?_;rintro e w6 ⟨rfl,hb1⟩))
    have HB6:=AA (AC (AD w5) hb1);clear hb1 c0 c1;have HREL:Hid (∃rr2,Be false M f' (j+1)=some rr2/\(UU (acc++[cn]) rr2=r)):=AA (by
     rcases RS.obind_some h3 with⟨l2,k2,h4,h5⟩|⟨er,pl,h4,h5⟩
     ·refine⟨_,h4,?_⟩;rw[<-HLK.out,<-Option.some.inj h5];simp[UU]
     ·refine⟨_,h4,?_⟩;rw[<-HLK.out,h5];rfl)
    clear h3;go_wp2_with fail
    go_roundw;case rel=>
     obtain⟨rr2,h6,h7⟩:=HREL.out;exact⟨j,acc++[cn],f',rr2,HS5.out.on HB6.out,HO5.out.on HB6.out,AT HK5.out HB6.out,hjl,by rw[List.length_append];simp;have:=HAL.out;omega,h6,h7⟩
    case measure=>
     have h8:intOf (BM g 1 w6)=j:=by
      obtain⟨q6,hb6⟩:=(HS5.out.on HB6.out).blk;rw[DZ hb6.cells.c1];rfl
     rw[h8,HME.out];have:=HKL.out;omega
   |false=>
    have HQ:=AA hq;have h3:=HF2.out;rw[if_neg (by rw[hq];simp)]at h3;have H3:=AA h3;clear hq h3;go_region_held3 (fun w'=>w'.cell? ⟨g,0,none⟩=some lv/\w'.cell? ⟨g,1,none⟩=some (.int .i64 j)/\Below w5.heap.size w5 w')
     (first|exact⟨c0,c1,Below.refl _ _⟩|exact⟨c0,c1,AD _⟩|exact⟨(hb1.cell (p:=⟨g,0,none⟩) hgl).trans c0,(hb1.cell (p:=⟨g,1,none⟩) hgl).trans c1,AC (AD _) hb1⟩)
     (first|(go_at_call 77;refine(Re HS5.out HQ.out (AD _)).mono ?_;rintro e w6 ⟨rfl,hb1⟩))
    have HB6:=AA (AC (AD w5) hb1);clear hb1 c0 c1;have HSG:=AA (Ya (HS5.out.on HB6.out) [59]);go_wp2_with fail
    refine HSG.out.mono ?_;intro e w7 hp7;obtain⟨hk7,hp7⟩:=hp7;have HK7:=AA (Ag (AT HK5.out HB6.out) hk7);have HO7:=AA ((HO5.out.on HB6.out).keepG hk7 (fun q hq e=>by
     have h1:=(AI HO5.out q hq).1;have h2:=HH.out.lt;omega))
    have HA7:Hid ((acc++[cn]).length<=10000):=AA (by rw[List.length_append];simp;have:=HAL.out;have:=HKL.out;have:=HH.out.len;omega);cases hm:Bo M j [59]with
    |ok u j2=>
     rw[hm]at hp7;obtain⟨rfl,hs7⟩:=hp7;have HS7:=AA hs7;have HRR:Hid (r=.ok (acc++[cn]) j2):=AA (by
      have h3:=H3.out;rw[hm]at h3;rw[<-HLK.out,<-Option.some.inj h3];rfl)
     clear hm hk7 hs7;go_wp2_with fail
     refine bodyPost_ret (v:=.tuple #[.slice A5 n5 c5,.int .i64 0]) (by simp[results,Tryz.results216,go_sem]) rfl ?_;rw[HRR.out];exact⟨_,_,_,rfl,HO7.out,HA7.out,HK7.out,rfl,rfl,HS7.out⟩
    |bad er pl=>
     rw[hm]at hp7;obtain⟨rfl,hne,i7,hb7⟩:=hp7;have HNE:=AA hne;have HB7:=AA hb7;have HRR:Hid (r=.bad er pl):=AA (by
      have h3:=H3.out;rw[hm]at h3;rw[<-HLK.out,<-Option.some.inj h3];rfl)
     clear hm hk7 hne hb7;go_wp2_with fail
     refine bodyPost_ret (v:=.tuple #[.slice A5 n5 c5,.int .i64 er]) (by simp[results,Tryz.results216,go_sem]) rfl ?_;rw[HRR.out];exact⟨_,_,_,rfl,HO7.out,HA7.out,HK7.out,rfl,HNE.out,i7,HB7.out⟩
  ·obtain h1:=Option.some.inj h1;have h1:=UV h1;rw[h1]at hp;obtain⟨rfl,hne,i2,hb2⟩:=hp;have hne2:(er != 0)=true:=by simp[hne]
   have HNE:=AA hne;have HB2:=AA hb2;have HRR:Hid (r=.bad er pl):=AA (by rw[<-HLK.out,h2];rfl);clear h1 h2 hne hb2;go_wp2_with fail
   refine bodyPost_ret (v:=.tuple #[.slice none 0 0,.int .i64 er]) (by simp[results,Tryz.results216,go_sem]) rfl ?_;rw[HRR.out];exact⟨_,[],_,rfl,Jg _ _,by simp,HKW.out,rfl,HNE.out,i2,HB2.out⟩
end
end Go.Proofs.YthfkpalfopdmhaaGreatDoor
namespace Go.Proofs.YthfkpalfopdmhaaGreatDoor
open Go.RowKit
theorem Q8:∀(M:List Tok) (j:Nat) (t:Tok),j<M.length->((((D9 M).set (j*4) (.int .i64 t.kind)).set (j*4+1) (.string ⟨t.text.toArray⟩)).set (j*4+2) (.int .i64 t.n)).set (j*4+3) (.int .i64 t.pl)=D9 (M.set j t)
 |[],j,t,h=>by simp at h
 |a::M,0,t,_=>by simp[D9,BJ]
 |a::M,j+1,t,h=>by
  have ih:=Q8 M j t (by simpa using h);have e:D9 (a::M)=BJ a++D9 M:=by simp[D9]
  have e2:D9 ((a::M).set (j+1) t)=BJ a++D9 (M.set j t):=by simp[D9]
  have hl:(BJ a).length=4:=rfl;rw[e,e2,<-ih];rw[show(j+1)*4=(BJ a).length+j*4 by rw[hl];omega];rw[show(BJ a).length+j*4+1=(BJ a).length+(j*4+1) by omega,show(BJ a).length+j*4+2=(BJ a).length+(j*4+2) by omega,show(BJ a).length+j*4+3=(BJ a).length+(j*4+3) by omega];simp only[List.set_append_right _ _ (Nat.le_add_right _ _),Nat.add_sub_cancel_left]
def Xk (w:World) (b j:Nat) (t:Tok):World:=(((w.setCell ⟨b,j*4,none⟩ (.int .i64 t.kind)).setCell ⟨b,j*4+1,none⟩ (.string ⟨t.text.toArray⟩)).setCell ⟨b,j*4+2,none⟩ (.int .i64 t.n)).setCell ⟨b,j*4+3,none⟩ (.int .i64 t.pl)
theorem V3 (w:World) (b j:Nat) (t:Tok):AG (fun q=>q=b) w (Xk w b j t):=Ag (Ag (Ag AG.set AG.set) AG.set) AG.set
theorem QCo {w:World} {B b c j:Nat} {M:List Tok} {t:Tok} (h:L2 w B (.slice (some ⟨b,0,none⟩) M.length c) M) (hj:j<M.length):L2 (Xk w b j t) B (.slice (some ⟨b,0,none⟩) M.length c) (M.set j t):=by
 obtain⟨h1,h2⟩:=h;rcases h2 with⟨hv,_⟩|⟨g,cap,cur,hv,hB,hh,hn,hm,hs,hc⟩
 ·cases hv
 ·simp only[Value.slice.injEq,Option.some.injEq,Addr.mk.injEq,and_true,true_and]at hv;obtain⟨rfl,rfl⟩:=hv;have h4:=Af (j:=j*4+3) (v:=.int .i64 t.pl) (Af (j:=j*4+2) (v:=.int .i64 t.n) (Af (j:=j*4+1) (v:=.string ⟨t.text.toArray⟩) (Af (j:=j*4) (v:=.int .i64 t.kind) hh)));refine⟨by rw[Pn,List.length_set];omega,.inr ⟨b,c,_,by rw[List.length_set],hB,h4,by rw[List.length_set];exact hn,hm,by simp[hs],?_⟩⟩;rw[List.length_set,<-Q8 M j t hj,<-hc];simp only[Array.toList_setIfInBounds,List.take_set]
theorem QAk {M:List Tok} (h:Gf M) {j i:Nat} {t:Tok} (ht:M[i]?=some t):Gf (M.set j t):=by
 intro x hx;rcases List.mem_or_eq_of_mem_set hx with hx|rfl
 ·exact h x hx
 ·exact h _ (List.mem_of_getElem? ht)
theorem Xl {M:List Tok} (h:CE M) {j i:Nat} {t:Tok} (ht:M[i]?=some t):CE (M.set j t):=by
 intro x hx;rcases List.mem_or_eq_of_mem_set hx with hx|rfl
 ·exact h x hx
 ·exact h _ (List.mem_of_getElem? ht)
theorem UW {M:List Tok} {j k:Nat} {t:Tok} (hjk:j<k) (hk:k<M.length):EW M (M.set j t) k:=by
 refine⟨by simp,fun q hq=>?_,?_⟩
 ·rw[List.getElem?_set,if_neg (by omega)]
 ·rw[List.getLast?_eq_getElem?,List.getLast?_eq_getElem?,List.length_set,List.getElem?_set,if_neg (by omega)]
theorem QE2 {M:List Tok} {i j:Nat} {t:Tok} (ht:M[i]?=some t) (hj:j<M.length) (s:List UInt8):isB (M.set j t) j s=isB M i s:=by
 unfold isB;rw[Int.toNat_natCast,Int.toNat_natCast,List.getElem?_set,if_pos rfl,if_pos hj,ht];simp
theorem QAl {M:List Tok} {i j:Nat} {t:Tok} (ht:M[i]?=some t) (hj:j<M.length):AN (M.set j t) j=AN M i:=by
 rw[OU ht,OU (t:=t) (by rw[List.getElem?_set,if_pos rfl,if_pos hj])]
theorem QCp {M:List Tok} {k:Nat} (hk:M.length<=k):Aj M k=1:=by
 rcases FR M k with h|⟨_,_,h⟩
 ·exact h
 ·have:=Bl h;omega
theorem rest_end {M:List Tok} {f k o:Nat} {r:RS (List Stm)} (hk:M.length<=k) (h:Hi M f k o=some r):r=.bad 6 (AN M k):=by
 unfold Hi at h;cases f with
 |zero=>simp[C7]at h
 |succ f=>
  rw[Dk,if_neg (by intro hb;have:=Bl hb;omega)]at h;have hn:Bd M k=.bad 6 (AN M k):=by
   unfold Bd nameAt badR;rw[List.getElem?_eq_none hk,if_neg (by omega)]
  have h1:G8 (C7 M f) M k 0 0=some (.bad 6 (AN M k)):=by
   unfold G8;rw[QCp hk,if_neg (by omega)];unfold Di;simp[hn]
  rw[h1]at h;simpa using h.symm
end Go.Proofs.YthfkpalfopdmhaaGreatDoor
namespace Go.Proofs.YthfkpalfopdmhaaGreatDoor
open Go.RowKit
def IJ (w:World) (b:Nat) (name:List UInt8) (vR vB:Value) (pl:Int):Prop:=w.heap[b]?=some (.cells #[.string ⟨name.toArray⟩,vR,vB,.int .i64 pl] 41 (0,0))
def Q9 (M:List Tok) (B g b:Nat) (lv:Value) (p:Pv) (name:List UInt8) (pl:Int) (r:RS Thr) (w:World) (e:Ending) (w':World):Prop:=
 AG (fun q=>q=g\/q=b\/lv.ownBlock=some q) w w'/\match r with
 |.ok t m=>e=.returned (.int .i64 0)/\∃M' vR vB,EW M M' m/\CE M'/\S5 M' B g lv m p w'/\IJ w' b t.name vR vB t.pl/\CS w' w.heap.size vR t.regs/\Ec w' w.heap.size vB t.body
 |.bad er q=>e=.returned (.int .i64 er)/\er≠0/\(∃i:Int,Bf w' g lv i p q)/\∃A n c,IJ w' b name (.slice A n c) (.slice none 0 0) pl
section
variable {M:List Tok} {B g b i:Nat} {lv:Value} {p:Pv} {w:World} {name:List UInt8} {pl:Int}
theorem S5.far {P:Nat->Prop} {w':World} (h:S5 M B g lv i p w) (hk:AG P w w') (hg:¬P g) (ho:∀q,lv.ownBlock=some q->¬P q) (h8:∀q,q<=8->¬P q):S5 M B g lv i p w':=by
 obtain⟨q,hq⟩:=h.blk;exact⟨⟨q,Et hq hk hg⟩,AO h.toks hk ho,h.tabs.same fun k hk8=>hk.block k (by have:=h.tabs.lt2;omega) (h8 k hk8),h.gB,h.BB,h.len,h.small,h.il⟩
theorem Cj {P:Nat->Prop} {w':World} {vR vB:Value} (h:IJ w b name vR vB pl) (hk:AG P w w') (hb:¬P b):IJ w' b name vR vB pl:=by unfold IJ;rw[hk.block b (Array.getElem?_eq_some_iff.1 h).1 hb];exact h
structure Apart (w:World) (g b:Nat) (lv:Value):Prop where
 bg:¬b=g
 gb:¬g=b
 bl:∀q,lv.ownBlock=some q->¬q=b
 gl:∀q,lv.ownBlock=some q->¬q=g
 b8:8<b
theorem Og {vR vB:Value} (h:S5 M B g lv i p w) (hb:IJ w b name vR vB pl) (h8:8<b):Apart w g b lv:=by
 obtain⟨q,hq⟩:=h.blk;have h1:¬b=g:=Of hq hb (by decide);refine⟨h1,fun e=>h1 e.symm,fun q hq e=>?_,fun q hq e=>(h.own_ne q hq).1 e,h8⟩;obtain⟨_,cs,hh⟩:=AI h.toks q hq;unfold IJ at hb;rw[e,hb]at hh;simp at hh
theorem S5.offb {w':World} (h:S5 M B g lv i p w) (ha:Apart w g b lv) (hk:AG (fun q=>q=b) w w'):S5 M B g lv i p w':=
 h.far hk ha.gb (fun q hq=>ha.bl q hq) (fun q hq e=>by have:=ha.b8;omega)
set_option maxRecDepth 100000 in
set_option maxHeartbeats 16000000 in
theorem QCq (h:S5 M B g lv i p w) (hwd:CE M) (hb:IJ w b name (.slice none 0 0) (.slice none 0 0) pl) (h8:8<b) {f:Nat} {r:RS Thr} (hr:Kp M f i name pl=some r):
  Calls Tryz.prog 184 #[.pointer (some ⟨g,0,none⟩),.pointer (some ⟨b,0,none⟩)] w (Q9 M B g b lv p name pl r w):=by
 have HA:=AA (Og h hb h8);have HH:=AA h;have HW:=AA hwd;have HB:=AA hb;have HR:=AA hr;obtain⟨q0,hb0⟩:=h.blk;obtain⟨hgl,c0,c1, -, -, -, -, -, -, -, -⟩:=hb0.cells;have HSG:=AA (Ya h [123]);have hlen:=h.len;clear h hwd hb hr hb0;go_enter Tryz.func184,Tryz.ntmps184;go_wp2_with fail
 refine HSG.out.mono ?_;intro e w1 hp;obtain⟨hk1,hp⟩:=hp;have HK1:Hid (AG (fun q=>q=g\/q=b\/lv.ownBlock=some q) w w1):=AA (hk1.mono (fun _ _ h=>.inl h));have HB1:=AA (Cj HB.out hk1 HA.out.bg);unfold Kp at HR;cases hm:Bo M i [123]with
 |bad er q=>
  rw[hm]at hp;obtain⟨rfl,hne,i1,hb1⟩:=hp;have hne2:(er != 0)=true:=by simp[hne]
  have HNE:=AA hne;have HX:=AA hb1;have HRR:Hid (r=.bad er q):=AA (by have h1:=HR.out;rw[hm]at h1;simpa using h1.symm);clear hm hk1 hne hb1;go_wp2_with fail
  go_ret;rw[HRR.out];exact⟨HK1.out,rfl,HNE.out,⟨i1,HX.out⟩,none,0,0,HB1.out⟩
 |ok u j=>
  rw[hm]at hp;obtain⟨rfl,hs1⟩:=hp;have hj:j=i+1/\isB M i [123]=true:=by
   unfold Bo at hm;split at hm
   ·rename_i hq;simp at hm;exact⟨hm.symm,hq⟩
   ·cases hm
  obtain⟨rfl,hq123⟩:=hj;have HQ1:=AA hq123;have HS1:=AA hs1;have HR1:Hid ((RS.obind (IC M f (i+1)) fun rs k=>RS.obind (Hi M f k i) fun b m=>some (.ok ⟨name,rs,b,pl⟩ m))=some r):=AA (by have h1:=HR.out;rw[hm]at h1;exact h1);obtain⟨q1,hb1⟩:=hs1.blk;obtain⟨hgl1,d0,d1, -, -, -, -, -, -, -, -⟩:=hb1.cells;have hne0:((0:Int) != 0)=false:=by decide
  clear hm hk1 hs1 hb1 hq123 HSG;go_wp2_with fail
  cases hq:isB M ((i+1:Nat):Int) Ip with
  |false=>
   have HQ:=AA hq;have HR2:Hid ((RS.obind (Hi M f (i+1) i) fun b m=>some (.ok ⟨name,[],b,pl⟩ m))=some r):=AA (by
    have h1:=HR1.out;unfold IC at h1;rw[if_neg (by rw[hq];simp)]at h1;exact h1)
   clear hq;go_region_held3 (fun w'=>w'.cell? ⟨g,0,none⟩=some lv/\w'.cell? ⟨g,1,none⟩=some (.int .i64 ((i+1:Nat):Int))/\Below w1.heap.size w1 w')
    (first|exact⟨d0,d1,Below.refl _ _⟩|exact⟨d0,d1,AD _⟩|exact⟨(hb1.cell (p:=⟨g,0,none⟩) hgl1).trans d0,(hb1.cell (p:=⟨g,1,none⟩) hgl1).trans d1,AC (AD _) hb1⟩)
    (first|(go_at_call 77;refine(Re HS1.out HQ.out (AD _)).mono ?_;rintro e w2 ⟨rfl,hb1⟩))
   have HB2:=AA (AC (AD w1) hb1);replace HK1:=AA (AT HK1.out HB2.out);replace HB1:=AA (Cj HB1.out (AG.of (P:=fun _=>False) HB2.out) (fun h=>h));replace HS1:=AA (HS1.out.on HB2.out);clear hb1 d0 d1 hgl1 HB2;generalize w2=w1 at *;have hP0:FD M (i:Nat)=FD M (i:Nat):=rfl;have HSP:=AA (Qj lv M (i:Nat) w1 HS1.out.read HS1.out.tabs HS1.out.len HS1.out.small);obtain⟨qz,hbz⟩:=HS1.out.blk;obtain⟨hglz,k0,k1, -, -, -, -, -, -,k8,fzz⟩:=hbz.cells;clear hP0 hbz fzz;rcases RS.obind_some HR2.out with⟨bd,m,h3,h4⟩|⟨er,q,h3,h4⟩
   ·have hst:FD M (i:Nat)=⟨bd,m,0,0⟩:=by
     rcases Lq (EW.refl M (i+1)) HQ1.out rfl h3 with⟨b',m',h5,h6⟩|⟨e',q',h5,_⟩
     ·simp only[RS.ok.injEq]at h5;obtain⟨rfl,rfl⟩:=h5;exact h6
     ·cases h5
    have HRR:Hid (r=.ok ⟨name,[],bd,pl⟩ m):=AA (by simpa using h4.symm);have hml:=It (show(i+1)<=M.length from(Bl HQ1.out)) h3;have HML:Hid ((i+1)<=m/\m<=M.length):=AA ⟨by have:=hml.1;omega,hml.2⟩;rw[hst]at HSP;clear h3 h4 hst hml;go_wp2_with fail
    refine HSP.out.mono ?_;rintro e wz ⟨v,rfl,hos,hbz⟩;have HOS:=AA hos;have HBZ:=AA hbz;have HSZ:=AA (HS1.out.on hbz);obtain⟨Av,cv,rfl⟩:=hos.slice;have HXZ:Hid (IJ wz b name (.slice none 0 0) (.slice none 0 0) pl):=AA (Cj HB1.out (AG.of (P:=fun _=>False) hbz) (fun h=>h));obtain⟨qz,hbz'⟩:=HSZ.out.blk;obtain⟨hglz,k0,k1, -, -, -, -, -, -,k8,fzz⟩:=hbz'.cells;have fz1:=fzz 1;have xb2:wz.cell? ⟨b,2,none⟩=some (.slice none 0 0):=by rw[Lib.cell_of_heap (show wz.heap[b]?=_ from HXZ.out)];rfl
    have fb2:wz.frozen? ⟨b,2,none⟩=false:=Lib.frozen_of_heap (show wz.heap[b]?=_ from HXZ.out) 2;have hbg:=HA.out.bg;have hgb:=HA.out.gb;clear hos hbz hbz' fzz;go_wp2_with fail
    go_ret;rw[HRR.out];have hkb:AG (fun q=>q=b) wz (wz.setCell ⟨b,2,none⟩ (.slice Av bd.length cv)):=AG.set;have hkg:AG (fun q=>q=g) (wz.setCell ⟨b,2,none⟩ (.slice Av bd.length cv)) ((wz.setCell ⟨b,2,none⟩ (.slice Av bd.length cv)).setCell ⟨g,1,none⟩ (.int .i64 m)):=AG.set;have hkk:AG (fun q=>q=g\/q=b) wz ((wz.setCell ⟨b,2,none⟩ (.slice Av bd.length cv)).setCell ⟨g,1,none⟩ (.int .i64 m)):=hkb.trans hkg (fun _ _ h=>.inr h) (fun _ _ h=>.inl h);have hxb:IJ (wz.setCell ⟨b,2,none⟩ (.slice Av bd.length cv)) b name (.slice none 0 0) (.slice Av bd.length cv) pl:=Af (show wz.heap[b]?=_ from HXZ.out)
    have hs2:=(HSZ.out.offb (Og HSZ.out HXZ.out HA.out.b8) hkb).set1 (j:=m) HML.out.2;have hno:∀(P:Nat->Prop),(∀q,P q->q=g\/q=b)->∀(T:TypeId) (cs:Array Value) q,wz.heap[q]?=some (.cells cs T (0,0))->T≠58->T≠41->¬P q:=fun P hP T cs q hh h1 h2 hq=>by
     rcases hP q hq with rfl|rfl
     ·obtain⟨qq,hqq⟩:=HSZ.out.blk;exact Of hqq hh h1 rfl
     ·have hx:=HXZ.out;unfold IJ at hx;rw[hx]at hh;simp only[Option.some.injEq,Obj.cells.injEq]at hh;exact h2 hh.2.1.symm
    refine⟨(AT HK1.out HBZ.out).trans hkk (fun _ _ h=>h) (fun _ _ h=>h.elim .inl (fun h=>.inr (.inl h))),rfl,M,(.slice none 0 0),_,EW.refl M m,HW.out,hs2,Cj hxb hkg HA.out.bg,Jg _ _,?_⟩;refine(Ec.base HOS.out HK1.out.size).keepT hkk (fun q cs T _ hh hT=>hno _ (fun q h=>h) T cs q hh ?_ ?_)
    ·simp at hT;rcases hT with rfl|rfl<;>decide
    ·simp at hT;rcases hT with rfl|rfl<;>decide
   ·have hst:er≠0/\FD M (i:Nat)=⟨[],0,er,q⟩:=by
     rcases Lq (EW.refl M (i+1)) HQ1.out rfl h3 with⟨b',m',h5,h6⟩|⟨e',q',h5,h6,h7⟩
     ·cases h5
     ·simp only[RS.bad.injEq]at h5;obtain⟨rfl,rfl⟩:=h5;exact⟨h6,h7⟩
    have HRR:Hid (r=.bad er q):=AA h4;obtain⟨hne,hst⟩:=hst;have hne2:(er != 0)=true:=by simp[hne]
    have HNE:=AA hne;rw[hst]at HSP;clear h3 h4 hst hne;go_wp2_with fail
    refine HSP.out.mono ?_;rintro e wz ⟨v,rfl,hos,hbz⟩;have HBZ:=AA hbz;have HSZ:=AA (HS1.out.on hbz);have HXZ:Hid (IJ wz b name (.slice none 0 0) (.slice none 0 0) pl):=AA (Cj HB1.out (AG.of (P:=fun _=>False) hbz) (fun h=>h));obtain⟨Av,cv,rfl⟩:=hos.slice;obtain⟨qz,hbz'⟩:=HSZ.out.blk;obtain⟨hglz,k0,k1, -, -, -, -, -, -,k8,fzz⟩:=hbz'.cells;have fz8:=fzz 8;clear hos hbz hbz' fzz;go_wp2_with fail
    go_ret;rw[HRR.out];have hkg:AG (fun q=>q=g) wz (wz.setCell ⟨g,8,none⟩ (.int .i64 q)):=AG.set;exact⟨(AT HK1.out HBZ.out).trans hkg (fun _ _ h=>h) (fun _ _ h=>.inl h),rfl,HNE.out,⟨_,(HSZ.out.set8 q).2⟩,none,0,0,Cj HXZ.out hkg HA.out.bg⟩
  |true=>
   have HQ:=AA hq;have HIL:=AA (Bl hq);obtain⟨rc,hrc⟩:∃rc,Be false M f (i+1+1)=some rc:=by
    have h1:=HR1.out;unfold IC at h1;rw[if_pos hq]at h1;rcases hc:Be false M f (i+1+1)with _|rc
    ·rw[hc]at h1;simp at h1
    ·exact⟨rc,rfl⟩
   have HRC:=AA hrc;clear hq hrc;go_region_held3 (fun w'=>w'.cell? ⟨g,0,none⟩=some lv/\w'.cell? ⟨g,1,none⟩=some (.int .i64 ((i+1:Nat):Int))/\Below w1.heap.size w1 w')
    (first|exact⟨d0,d1,Below.refl _ _⟩|exact⟨d0,d1,AD _⟩|exact⟨(hb1.cell (p:=⟨g,0,none⟩) hgl1).trans d0,(hb1.cell (p:=⟨g,1,none⟩) hgl1).trans d1,AC (AD _) hb1⟩)
    (first|(go_at_call 77;refine(Re HS1.out HQ.out (AD _)).mono ?_;rintro e w2 ⟨rfl,hb1⟩))
   have HB2:=AA (AC (AD w1) hb1);replace HK1:=AA (AT HK1.out HB2.out);replace HB1:=AA (Cj HB1.out (AG.of (P:=fun _=>False) HB2.out) (fun h=>h));replace HS1:=AA (HS1.out.on HB2.out);clear hb1 d0 d1 hgl1 HB2;generalize w2=w1 at *;have HROW:=AA (QCn (F:=183) (fun a w=>enters_of Tryz.func183 (by kernel_rfl) rfl a w) (fun j w' hs=>name5 hs HW.out) HS1.out HIL.out rfl HRC.out);go_wp2_with fail
   refine HROW.out.mono ?_;rintro e w3 ⟨v,l,er,rfl,hol,hl1,hk3,hp3⟩;obtain⟨AR,cR,rfl, -, -, -⟩:=hol.reads;obtain⟨nl,hnl⟩:∃nl,l.length=nl:=⟨_,rfl⟩
   rw[hnl]at hol⊢;have HNL:=AA hnl;clear hnl;have hx3:IJ w3 b name (.slice none 0 0) (.slice none 0 0) pl:=Cj HB1.out hk3 HA.out.bg;have HK3:Hid (AG (fun q=>q=g\/q=b\/lv.ownBlock=some q) w w3):=AA (Ag HK1.out (hk3.mono (fun _ _ h=>.inl h)));have xb1:w3.cell? ⟨b,1,none⟩=some (.slice none 0 0):=by rw[Lib.cell_of_heap (show w3.heap[b]?=_ from hx3)];rfl
   have fb1:w3.frozen? ⟨b,1,none⟩=false:=Lib.frozen_of_heap (show w3.heap[b]?=_ from hx3) 1;have hx4:IJ (w3.setCell ⟨b,1,none⟩ (.slice AR nl cR)) b name (.slice AR nl cR) (.slice none 0 0) pl:=Af (show w3.heap[b]?=_ from hx3);have hkb:AG (fun q=>q=b) w3 (w3.setCell ⟨b,1,none⟩ (.slice AR nl cR)):=AG.set;have HX4:=AA hx4;have HKB:=AA hkb;have HK4:Hid (AG (fun q=>q=g\/q=b\/lv.ownBlock=some q) w (w3.setCell ⟨b,1,none⟩ (.slice AR nl cR))):=AA (Ag HK3.out (hkb.mono (fun _ _ h=>.inr (.inl h))));have HX3:=AA hx3;have HOL:=AA hol;cases rc with
   |bad e2 q=>
    obtain⟨rfl,hne,i3,hb3⟩:=hp3;have hne2:(er != 0)=true:=by simp[hne]
    have HNE:=AA hne;have HX:=AA (Et hb3 hkb HA.out.gb);have HRR:Hid (r=.bad er q):=AA (by
     have h1:=HR1.out;unfold IC at h1;rw[if_pos HQ.out,HRC.out]at h1;simpa using h1.symm)
    clear hb3 hne hkb hx4 hx3 hol hk3;go_wp2_with fail
    go_ret;rw[HRR.out];exact⟨HK4.out,rfl,HNE.out,⟨i3,HX.out⟩,AR,nl,cR,HX4.out⟩
   |ok cs k=>
    obtain⟨rfl,hl3,hs3⟩:=hp3;rw[List.nil_append]at hl3;subst hl3;have hck:=FM _ _ _ HRC.out;have HR2:Hid ((RS.obind (Hi M f k i) fun b m=>some (.ok ⟨name,cs.map (·.name),b,pl⟩ m))=some r):=AA (by
     have h1:=HR1.out;unfold IC at h1;rw[if_pos HQ.out,HRC.out]at h1;simpa using h1)
    have HS3:=AA hs3;have HCK:Hid (i+1+1<k/\k<=M.length):=AA hck;have HS4:=AA (hs3.offb (Og hs3 HX3.out HA.out.b8) hkb);have HRG:Hid (CS (w3.setCell ⟨b,1,none⟩ (.slice AR nl cR)) w.heap.size (.slice AR nl cR) (cs.map (·.name))):=AA ((CS.base hol HK1.out.size).keepG hkb (fun q hq e=>by
     obtain⟨_,cs2,h1⟩:=AI hol q hq;have h2:=HX3.out;unfold IJ at h2;rw[e,h2]at h1;simp at h1))
    clear hs3 hkb hx4 hx3 hol hk3 hck;go_wp2_with fail
    generalize w3.setCell ⟨b,1,none⟩ (.slice AR nl cR)=w4 at *;cases hend:decide (M.length<=k)with
    |true=>
     have HE:=AA (MV HS4.out hend);have hkM:M.length<=k:=by simpa using hend
     have HRR:Hid (r=.bad 6 (AN M k)):=AA (by
      rcases RS.obind_some HR2.out with⟨bd,m,h3,h4⟩|⟨er,q,h3,h4⟩
      ·have:=rest_end hkM h3;cases this
      ·have h5:=rest_end hkM h3;rw[h4];simp only[RS.bad.injEq]at h5;rw[h5.1,h5.2])
     have HEQ:Hid ((if k<M.length then(5:Int)else 6)=6):=AA (by rw[if_neg (by omega)]);clear hend hkM;refine HE.out.mono ?_;rintro e w5 ⟨rfl,hb5⟩;have HB5:=AA hb5;have HS5:=AA (HS4.out.on hb5);clear hb5;go_wp2_with fail
     refine(LN HS5.out).mono ?_;rw[HEQ.out];rintro e w6 ⟨rfl,hs6,hb6,hk6⟩;have HB6:=AA hb6;have HK6:=AA hk6;clear hs6 hb6 hk6;go_wp2_with fail
     go_ret;rw[HRR.out];exact⟨Ag (AT HK4.out HB5.out) (HK6.out.mono (fun _ _ h=>.inl h)),rfl,by decide,⟨_,HB6.out⟩,AR,nl,cR,Cj (Cj HX4.out (AG.of (P:=fun _=>False) HB5.out) (fun h=>h)) HK6.out HA.out.bg⟩
    |false=>
     obtain⟨fx,rfl⟩:∃fx,k=fx+1:=⟨k-1,by have:=HCK.out;omega⟩
     have HE:=AA (MV HS4.out hend);have HLT:Hid (fx+1<M.length):=AA (by simpa using hend);have hfi:i+1<fx:=by have:=HCK.out;omega
     clear hend;refine HE.out.mono ?_;rintro e w5 ⟨rfl,hb5⟩;have HB5:=AA hb5;have HS5:=AA (HS4.out.on hb5);have HX5:=AA (Cj HX4.out (AG.of (P:=fun _=>False) hb5) (fun h=>h));have HK5:=AA (AT HK4.out hb5);replace HRG:=AA (HRG.out.on hb5);obtain⟨t,ht⟩:∃t,M[i]?=some t:=⟨M[i]'(by have:=HLT.out;omega),List.getElem?_eq_getElem _⟩
     obtain⟨tf,htf⟩:∃t,M[fx]?=some t:=⟨M[fx]'(by have:=HLT.out;omega),List.getElem?_eq_getElem _⟩
     obtain⟨tb,tc,hlv,hc,htb,t0,t1,t2,t3⟩:=HS5.out.tok ht;obtain⟨tb',tc',hlv',hc',htb',u0,u1,u2,u3⟩:=HS5.out.tok htf;have hlv2:=hlv;rw[hlv]at hlv';simp only[Value.slice.injEq,Option.some.injEq,Addr.mk.injEq,and_true,true_and]at hlv';obtain⟨rfl,rfl⟩:=hlv';obtain⟨qy,hqy⟩:=HS5.out.blk;obtain⟨hgl5,k0,k1, -, -, -, -, -, -, -, -⟩:=hqy.cells;have hfr:∀n,w5.frozen? ⟨tb,n,none⟩=false:=fun n=>by
      obtain⟨_,cs2,hh⟩:=AI HS5.out.toks tb (by rw[hlv];rfl);exact Lib.frozen_of_heap hh n
     have fr0:=hfr (fx*4);have fr1:=hfr (fx*4+1);have fr2:=hfr (fx*4+2);have fr3:=hfr (fx*4+3);have hwa:IntKind.i64.wrap ((fx:Int)+1-1)=(fx:Int):=by rw[show(fx:Int)+1-1=fx by omega];exact IntWalk.i64_in _ (by have:=HLT.out;omega)
     have hwb:IntKind.i64.wrap (fx:Int)=(fx:Int):=IntWalk.i64_in _ (by have:=HLT.out;omega);have hi0:(0:Int)<=(i:Int):=by omega
     have hi1:(i:Int)<(M.length:Int):=by have:=HLT.out;omega
     have hf0:(0:Int)<=(fx:Int):=by omega
     have hf1:(fx:Int)<(M.length:Int):=by have:=HLT.out;omega
     have HQF:Hid (isB (M.set fx t) fx [123]=true):=AA (by rw[QE2 ht (by omega)];exact HQ1.out);have HPF:Hid (AN (M.set fx t) fx=AN M i):=AA (QAl ht (by omega));have HTT:=AA ht;have HLV:=AA hlv;clear hb5 hfr hqy ht htf hlv2;subst hlv;go_wp2_with fail
     go_region
     have HW6:=AA (Xl (j:=fx) HW.out HTT.out);obtain⟨w6,hw6⟩:∃w6,(Xk w5 tb fx t).drew=w6:=⟨_,rfl⟩
     rw[show((((w5.setCell ⟨tb,fx*4,none⟩ (.int .i64 t.kind)).setCell ⟨tb,fx*4+1,none⟩ (.string ⟨t.text.toArray⟩)).setCell ⟨tb,fx*4+2,none⟩ (.int .i64 t.n)).setCell ⟨tb,fx*4+3,none⟩ (.int .i64 t.pl)).drew=w6 from hw6];have hkt:AG (fun q=>q=tb) w5 w6:=by rw[<-hw6];exact AT (V3 w5 tb fx t) (AD _)
     have htg:¬g=tb:=fun e=>HA.out.gl tb rfl e.symm
     have htb2:¬b=tb:=fun e=>HA.out.bl tb rfl e.symm
     have HB6:=AA (Cj HX5.out hkt htb2);have HK6:Hid (AG (fun q=>q=g\/q=b\/(Value.slice (some ⟨tb,0,none⟩) M.length tc).ownBlock=some q) w w6):=AA (Ag HK5.out (hkt.mono (fun q _ h=>.inr (.inr (by rw[h];rfl)))));have HS6:Hid (S5 (M.set fx t) B g (.slice (some ⟨tb,0,none⟩) M.length tc) (fx+1) p w6):=AA (by
      obtain⟨qy,hqy⟩:=HS5.out.blk;refine⟨⟨qy,Et hqy hkt htg⟩,?_,HS5.out.tabs.same fun k hk8=>hkt.block k (by have:=HS5.out.tabs.lt2;omega) (by
       have h1:=(HS5.out.own_ne tb rfl).2.2;have h2:=HS5.out.BB;omega),HS5.out.gB,HS5.out.BB,by rw[List.length_set];exact HS5.out.len,QAk HS5.out.small HTT.out,by rw[List.length_set];exact HS5.out.il⟩
      rw[<-hw6];exact AO (QCo HS5.out.toks (by have:=HLT.out;omega)) (AG.of (P:=fun _=>False) (AD _)) (fun _ _ h=>h))
     replace HRG:=AA (HRG.out.keepG hkt (fun q hq e=>by
      obtain⟨_,cs2,h1⟩:=AI HRG.out q hq;obtain⟨_,cs3,h2⟩:=AI HS5.out.toks tb rfl;rw[e,h2]at h1;simp at h1))
     clear hw6 hkt t0 t1 t2 t3 u0 u1 u2 u3 fr0 fr1 fr2 fr3 k0 k1 hwa hwb hi0 hi1 hf0 hf1;have hP0:FD (M.set fx t) (fx:Nat)=FD (M.set fx t) (fx:Nat):=rfl;have HSP:=AA (Qj _ (M.set fx t) (fx:Nat) w6 HS6.out.read HS6.out.tabs HS6.out.len HS6.out.small);obtain⟨qz,hbz⟩:=HS6.out.blk;obtain⟨hglz,k0,k1, -, -, -, -, -, -,k8,fzz⟩:=hbz.cells;clear hP0 hbz fzz;rcases RS.obind_some HR2.out with⟨bd,m,h3,h4⟩|⟨er,q,h3,h4⟩
     ·have hst:FD (M.set fx t) (fx:Nat)=⟨bd,m,0,0⟩:=by
       rcases Lq (UW (Nat.lt_succ_self fx) HLT.out) HQF.out HPF.out h3 with⟨b',m',h5,h6⟩|⟨e',q',h5,_⟩
       ·simp only[RS.ok.injEq]at h5;obtain⟨rfl,rfl⟩:=h5;exact h6
       ·cases h5
      have HRR:Hid (r=.ok ⟨name,(cs.map (·.name)),bd,pl⟩ m):=AA (by simpa using h4.symm);have hml:=It (show(fx+1)<=M.length from(Nat.le_of_lt HLT.out)) h3;have HML:Hid ((fx+1)<=m/\m<=M.length):=AA ⟨by have:=hml.1;omega,hml.2⟩;rw[hst]at HSP;clear h3 h4 hst hml;go_wp2_with fail
      refine HSP.out.mono ?_;rintro e wz ⟨v,rfl,hos,hbz⟩;have HOS:=AA hos;have HBZ:=AA hbz;have HSZ:=AA (HS6.out.on hbz);obtain⟨Av,cv,rfl⟩:=hos.slice;have HXZ:Hid (IJ wz b name (.slice AR nl cR) (.slice none 0 0) pl):=AA (Cj HB6.out (AG.of (P:=fun _=>False) hbz) (fun h=>h));obtain⟨qz,hbz'⟩:=HSZ.out.blk;obtain⟨hglz,k0,k1, -, -, -, -, -, -,k8,fzz⟩:=hbz'.cells;have fz1:=fzz 1;have xb2:wz.cell? ⟨b,2,none⟩=some (.slice none 0 0):=by rw[Lib.cell_of_heap (show wz.heap[b]?=_ from HXZ.out)];rfl
      have fb2:wz.frozen? ⟨b,2,none⟩=false:=Lib.frozen_of_heap (show wz.heap[b]?=_ from HXZ.out) 2;have hbg:=HA.out.bg;have hgb:=HA.out.gb;clear hos hbz hbz' fzz;go_wp2_with fail
      go_ret;rw[HRR.out];have hkb:AG (fun q=>q=b) wz (wz.setCell ⟨b,2,none⟩ (.slice Av bd.length cv)):=AG.set;have hkg:AG (fun q=>q=g) (wz.setCell ⟨b,2,none⟩ (.slice Av bd.length cv)) ((wz.setCell ⟨b,2,none⟩ (.slice Av bd.length cv)).setCell ⟨g,1,none⟩ (.int .i64 m)):=AG.set;have hkk:AG (fun q=>q=g\/q=b) wz ((wz.setCell ⟨b,2,none⟩ (.slice Av bd.length cv)).setCell ⟨g,1,none⟩ (.int .i64 m)):=hkb.trans hkg (fun _ _ h=>.inr h) (fun _ _ h=>.inl h);have hxb:IJ (wz.setCell ⟨b,2,none⟩ (.slice Av bd.length cv)) b name (.slice AR nl cR) (.slice Av bd.length cv) pl:=Af (show wz.heap[b]?=_ from HXZ.out)
      have hs2:=(HSZ.out.offb (Og HSZ.out HXZ.out HA.out.b8) hkb).set1 (j:=m) (by rw[List.length_set];exact HML.out.2);have hno:∀(P:Nat->Prop),(∀q,P q->q=g\/q=b)->∀(T:TypeId) (cs:Array Value) q,wz.heap[q]?=some (.cells cs T (0,0))->T≠58->T≠41->¬P q:=fun P hP T cs q hh h1 h2 hq=>by
       rcases hP q hq with rfl|rfl
       ·obtain⟨qq,hqq⟩:=HSZ.out.blk;exact Of hqq hh h1 rfl
       ·have hx:=HXZ.out;unfold IJ at hx;rw[hx]at hh;simp only[Option.some.injEq,Obj.cells.injEq]at hh;exact h2 hh.2.1.symm
      refine⟨(AT HK6.out HBZ.out).trans hkk (fun _ _ h=>h) (fun _ _ h=>h.elim .inl (fun h=>.inr (.inl h))),rfl,(M.set fx t),(.slice AR nl cR),_,(UW (Nat.lt_succ_self fx) HLT.out).on HML.out.1,HW6.out,hs2,Cj hxb hkg HA.out.bg,(HRG.out.on HBZ.out).keepG hkk (fun q hq=>hno _ (fun q h=>h) 9 _ q (AI (HRG.out.on HBZ.out) q hq).2.choose_spec (by decide) (by decide)),?_⟩;refine(Ec.base HOS.out HK6.out.size).keepT hkk (fun q cs T _ hh hT=>hno _ (fun q h=>h) T cs q hh ?_ ?_)
      ·simp at hT;rcases hT with rfl|rfl<;>decide
      ·simp at hT;rcases hT with rfl|rfl<;>decide
     ·have hst:er≠0/\FD (M.set fx t) (fx:Nat)=⟨[],0,er,q⟩:=by
       rcases Lq (UW (Nat.lt_succ_self fx) HLT.out) HQF.out HPF.out h3 with⟨b',m',h5,h6⟩|⟨e',q',h5,h6,h7⟩
       ·cases h5
       ·simp only[RS.bad.injEq]at h5;obtain⟨rfl,rfl⟩:=h5;exact⟨h6,h7⟩
      have HRR:Hid (r=.bad er q):=AA h4;obtain⟨hne,hst⟩:=hst;have hne2:(er != 0)=true:=by simp[hne]
      have HNE:=AA hne;rw[hst]at HSP;clear h3 h4 hst hne;go_wp2_with fail
      refine HSP.out.mono ?_;rintro e wz ⟨v,rfl,hos,hbz⟩;have HBZ:=AA hbz;have HSZ:=AA (HS6.out.on hbz);have HXZ:Hid (IJ wz b name (.slice AR nl cR) (.slice none 0 0) pl):=AA (Cj HB6.out (AG.of (P:=fun _=>False) hbz) (fun h=>h));obtain⟨Av,cv,rfl⟩:=hos.slice;obtain⟨qz,hbz'⟩:=HSZ.out.blk;obtain⟨hglz,k0,k1, -, -, -, -, -, -,k8,fzz⟩:=hbz'.cells;have fz8:=fzz 8;clear hos hbz hbz' fzz;go_wp2_with fail
      go_ret;rw[HRR.out];have hkg:AG (fun q=>q=g) wz (wz.setCell ⟨g,8,none⟩ (.int .i64 q)):=AG.set;exact⟨(AT HK6.out HBZ.out).trans hkg (fun _ _ h=>h) (fun _ _ h=>.inl h),rfl,HNE.out,⟨_,(HSZ.out.set8 q).2⟩,AR,nl,cR,Cj HXZ.out hkg HA.out.bg⟩
end
end Go.Proofs.YthfkpalfopdmhaaGreatDoor

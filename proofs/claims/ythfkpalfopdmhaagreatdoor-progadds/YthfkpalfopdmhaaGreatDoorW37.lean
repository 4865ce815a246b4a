/- Texts of the walk, packed. -/
import Derived.Test.YthfkpalfopdmhaaGreatDoorW36
import Derived.Test.YthfkpalfopdmhaaGreatDoorW00
namespace Go.Proofs.YthfkpalfopdmhaaGreatDoor
open Go.RowKit
section
variable {M:List Tok} {B g i N:Nat} {lv:Value} {p:Pv} {w:World}
def KQ:Array Value:=#[.string ⟨#[108,105,110,101]⟩,.func (.func 134) #[] #[],.string ⟨#[118,111,108]⟩,.func (.func 135) #[] #[],.string ⟨#[108,111,99,107]⟩,.func (.func 136) #[] #[],.string ⟨#[116,104,114,101,97,100]⟩,.func (.func 137) #[] #[],.string ⟨#[114,101,99,111,118,101,114]⟩,.func (.func 138) #[] #[],.string ⟨#[97,108,119,97,121,115]⟩,.func (.func 139) #[] #[]]
set_option maxRecDepth 100000 in
set_option maxHeartbeats 4000000 in
theorem QGM (w:World):Calls Tryz.prog 76 #[] w (fun e w'=>e=.returned (.agg KQ)/\Below w.heap.size w w'):=by
 go_enter Tryz.func76,Tryz.ntmps76;go_wp2_with fail
 refine bodyPost_ret (v:=.agg KQ) (by simp[results,Tryz.results76,go_sem,KQ]) rfl ?_;exact⟨rfl,(Below.refl _ _).alloc (Nat.le_refl _) _⟩
theorem QGN (w:World):(Instr.index 119 (.agg KQ) (.int .i64 0)).run Tryz.prog w=.ok (.agg #[.string ⟨#[108,105,110,101]⟩,.func (.func 134) #[] #[]]) w:=by
 refine Eq.trans ?_ rfl
 kernel_rfl
theorem QGO (w:World):(Instr.index 119 (.agg KQ) (.int .i64 1)).run Tryz.prog w=.ok (.agg #[.string ⟨#[118,111,108]⟩,.func (.func 135) #[] #[]]) w:=by
 refine Eq.trans ?_ rfl
 kernel_rfl
theorem QGP (w:World):(Instr.index 119 (.agg KQ) (.int .i64 2)).run Tryz.prog w=.ok (.agg #[.string ⟨#[108,111,99,107]⟩,.func (.func 136) #[] #[]]) w:=by
 refine Eq.trans ?_ rfl
 kernel_rfl
theorem QGQ (w:World):(Instr.index 119 (.agg KQ) (.int .i64 3)).run Tryz.prog w=.ok (.agg #[.string ⟨#[116,104,114,101,97,100]⟩,.func (.func 137) #[] #[]]) w:=by
 refine Eq.trans ?_ rfl
 kernel_rfl
theorem QGR (w:World):(Instr.index 119 (.agg KQ) (.int .i64 4)).run Tryz.prog w=.ok (.agg #[.string ⟨#[114,101,99,111,118,101,114]⟩,.func (.func 138) #[] #[]]) w:=by
 refine Eq.trans ?_ rfl
 kernel_rfl
theorem QGS (w:World):(Instr.index 119 (.agg KQ) (.int .i64 5)).run Tryz.prog w=.ok (.agg #[.string ⟨#[97,108,119,97,121,115]⟩,.func (.func 139) #[] #[]]) w:=by
 refine Eq.trans ?_ rfl
 kernel_rfl
def FUT (F:Nat):Nat->List Tok->Nat->Prg->Option (RS Prg)
 |0,M,i,P=>V1 M F F i P
 |1,M,i,P=>UO M F F i P
 |2,M,i,P=>UN M F F i P
 |3,M,i,P=>fut3 M F F i P
 |4,M,i,P=>fut4 M F i P
 |5,M,i,P=>fut5 M F i P
 |_,M,i,P=>some (OY M i P)
structure QGz (k:Nat) (p:Pv) (P:Prg):Prop where
 a:k<=0->p.a=.slice none 0 0/\P.lines=[]
 b:k<=1->p.b=.slice none 0 0/\P.vols=[]
 c:k<=2->p.c=.slice none 0 0/\P.locks=[]
 d:k<=3->p.d=.slice none 0 0/\P.threads=[]
 e:k<=4->p.e=.slice none 0 0/\P.recs=[]
 f:k<=5->p.f=.slice none 0 0/\P.claims=[]
structure Xm (F k B g N n:Nat) (lv:Value) (r:RS Prg) (i:Nat) (M:List Tok) (p:Pv) (P:Prg) (W0 w:World):Prop where
 st:S5 M B g lv i p w
 wd:CE M
 ln:M.length=n
 own:B9 w N p P
 fresh:QGz k p P
 fut:FUT F k M i P=some r
 keep:AG (Ko g lv N) W0 w
theorem Gu {N':Nat} (h:N<=N') {q:Nat} (hq:Ko g lv N' q):Ko g lv N q:=hq.elim .inl (fun h1=>h1.elim (fun h=>.inr (.inl h)) (fun h2=>.inr (.inr (Nat.le_trans h h2))))
theorem Fo {N':Nat} (hg:g<N) (hl:∀q,lv.ownBlock=some q->q<N) (hN':w.heap.size<=N'):∀q,N<=q->q<w.heap.size->¬Ko g lv N' q:=by
 rintro q h1 h2 (e|e|e)
 ·omega
 ·have:=hl q e;omega
 ·omega
def QE3 (g N:Nat) (lv:Value) (r:RS Prg) (w:World) (e:Ending) (w':World):Prop:=
 AG (Ko g lv N) w w'/\match r with
 |.ok P _=>e=.returned (.int .i64 0)/\∃(i q:Int) (p:Pv),Bf w' g lv i p q/\B9 w' N p P
 |.bad er q=>e=.returned (.int .i64 er)/\er≠0/\∃(i:Int) (p:Pv),Bf w' g lv i p q
set_option maxRecDepth 100000 in
set_option maxHeartbeats 64000000 in
theorem QHO {n F:Nat} {r:RS Prg} (h:S5 M B g lv 0 noPv w) (hwd:CE M) (hgN:g<N) (hlN:∀q,lv.ownBlock=some q->q<N) (hNw:N<=w.heap.size) (hn:M.length=n) (hr:I8 M F=some r):
  Calls Tryz.prog 22 #[.pointer (some ⟨g,0,none⟩)] w (QE3 g N lv r w):=by
 have HGN:=AA hgN;have HLN:=AA hlN;have HNW:=AA hNw;have HA0:Hid (Xm F 0 B g N n lv r 0 M noPv noPg w w):=AA ⟨h,hwd,hn,Ji w N,⟨fun _=>⟨rfl,rfl⟩,fun _=>⟨rfl,rfl⟩,fun _=>⟨rfl,rfl⟩,fun _=>⟨rfl,rfl⟩,fun _=>⟨rfl,rfl⟩,fun _=>⟨rfl,rfl⟩⟩,by rw[QEj]at hr;exact hr,AG.refl _ _⟩;have hlen:n<=10000:=by rw[<-hn];exact h.len
 clear h hwd hgN hlN hNw hn hr;go_enter Tryz.func22,Tryz.ntmps22;go_wp2_with fail
 refine(QGM w).mono ?_;rintro e w1 ⟨rfl,hb1⟩;have HA1:Hid (Xm F 0 B g N n lv r 0 M noPv noPg w w1):=AA ⟨HA0.out.st.on hb1,HA0.out.wd,HA0.out.ln,HA0.out.own.on hb1,HA0.out.fresh,HA0.out.fut,AT HA0.out.keep hb1⟩;clear hb1 HA0;go_wp2_with fail
 go_loopw [7] (fun v wr=>∃(k i:Nat) (M:List Tok) (p:Pv) (P:Prg),k<=6/\v=.int .i64 k/\Xm F k B g N n lv r i M p P w wr) (fun v _=>6-(intOf v).toNat)
 case atStart=>exact⟨0,0,_,_,_,by omega,rfl,HA1.out⟩
 case round=>
  clear HA1;obtain⟨k,i,M,p,P,hk6,rfl,hat⟩:=hrel;have HAT:=AA hat;clear hat;obtain⟨wo,hwo⟩:∃x:World,x=wr:=⟨_,rfl⟩
  subst hwo;have hk:k=0\/k=1\/k=2\/k=3\/k=4\/k=5\/k=6:=by omega
  clear hk6;rcases hk with rfl|rfl|rfl|rfl|rfl|rfl|rfl
  ·have hx:=QGN;go_wp2_with fail
   obtain⟨b4,hb4⟩:∃b4,wo.heap.size=b4:=⟨_,rfl⟩
   have hX4:=heap_alloc_new wo (.cells #[.string ⟨#[108,105,110,101]⟩,.func (.func 134) #[] #[]] 118);have hBX:Below wo.heap.size wo (wo.alloc (.cells #[.string ⟨#[108,105,110,101]⟩,.func (.func 134) #[] #[]] 118)):=(Below.refl _ _).alloc (Nat.le_refl _) _;rw[hb4]at hX4⊢;have HAW:Hid (Xm F 0 B g N n lv r i M p P w (wo.alloc (.cells #[.string ⟨#[108,105,110,101]⟩,.func (.func 134) #[] #[]] 118))):=AA ⟨HAT.out.st.on hBX,HAT.out.wd,HAT.out.ln,HAT.out.own.on hBX,HAT.out.fresh,HAT.out.fut,AT HAT.out.keep hBX⟩;have HN4:Hid (N<=b4):=AA (by rw[<-hb4];have:=HAT.out.keep.size;have:=HNW.out;omega)
   generalize wo.alloc (.cells #[.string ⟨#[108,105,110,101]⟩,.func (.func 134) #[] #[]] 118)=W at *;replace HAT:=HAW;have HFR:=AA (HAT.out.fresh.a (Nat.le_refl _));have hl4W:=(Array.getElem?_eq_some_iff.1 hX4).1;have HX4:=AA hX4;have HNS:Hid (N<=W.heap.size):=AA (by have:=HN4.out;omega);have HL4:=AA hl4W;clear hX4 hBX hb4 HAW hx hl4W;go_loopw [5] (fun _ wi=>∃(i:Nat) (M:List Tok) (v:Value) (l:List (List Cel)) (f:Nat),S5 M B g lv i {p with a:=v} wi/\CE M/\M.length=n/\AG (Ko g lv W.heap.size) W wi/\Iq wi W.heap.size v l/\l.length<=i/\V1 M F f i {P with lines:=l}=some r)
    (fun _ wi=>n-(intOf (BM g 1 wi)).toNat)
   case atStart=>exact⟨i,M,p.a,P.lines,F,HAT.out.st,HAT.out.wd,HAT.out.ln,AG.refl _ _,by rw[HFR.out.1,HFR.out.2];exact LI _ _,by rw[HFR.out.2];exact Nat.zero_le _,HAT.out.fut⟩
   case round=>
    obtain⟨wi,hwi⟩:∃x:World,x=wr:=⟨_,rfl⟩
    subst hwi;obtain⟨i,M,v,l,f,hs,hwd,hln,hki,ho,hll,hf⟩:=hrel;have HSI:=AA hs;have HWD:=AA hwd;have HLM:=AA hln;have HKI:=AA hki;have HOI:=AA ho;have HLL:=AA hll;have HFF:=AA hf;obtain⟨q0,hb0⟩:=hs.blk;obtain⟨hgl,c0,c1, -, -, -, -, -, -, -, -⟩:=hb0.cells;have hme:intOf (BM g 1 wi)=i:=by rw[DZ c1];rfl
    have HME:=AA hme;have HX4I:Hid (wi.heap[b4]?=some (.cells #[.string ⟨#[108,105,110,101]⟩,.func (.func 134) #[] #[]] 118 (0,0))):=AA (by
     rw[hki.block b4 HL4.out (Fo (N:=N) HGN.out HLN.out (Nat.le_refl _) b4 HN4.out HL4.out)];exact HX4.out)
    have hl4:=(Array.getElem?_eq_some_iff.1 HX4I.out).1;have z0:wi.cell? ⟨b4,0,none⟩=some (.string ⟨#[108,105,110,101]⟩):=by rw[Lib.cell_of_heap HX4I.out];rfl
    clear hs hwd hln hki ho hll hf hb0 hme;cases hq:isB M i DG with
    |false=>
     have HQ:=AA hq;go_wp2_with fail
     go_region_held3 (fun w'=>w'.cell? ⟨g,0,none⟩=some lv/\w'.cell? ⟨g,1,none⟩=some (.int .i64 i)/\w'.cell? ⟨b4,0,none⟩=some (.string ⟨#[108,105,110,101]⟩)/\Below wi.heap.size wi w')
     (first|exact⟨c0,c1,z0,Below.refl _ _⟩|exact⟨c0,c1,z0,AD _⟩|exact⟨(hb1.cell (p:=⟨g,0,none⟩) hgl).trans c0,(hb1.cell (p:=⟨g,1,none⟩) hgl).trans c1,(hb1.cell (p:=⟨b4,0,none⟩) hl4).trans z0,AC (AD _) hb1⟩)
     (first|(go_at_call 77;refine(Re HSI.out (s:=DG) HQ.out (AD _)).mono ?_;rintro e w2 ⟨rfl,hb1⟩))
     have HB2:=AA (AC (AD wi) hb1);have HNEW:Hid (Xm F 1 B g N n lv r i M {p with a:=v} {P with lines:=l} w w2):=AA (by
      have hk2:=AT HKI.out HB2.out;have h0:=HAT.out.own.keep hk2 (Fo HGN.out HLN.out (Nat.le_refl _));have fr:=HAT.out.fresh;refine⟨HSI.out.on HB2.out,HWD.out,HLM.out,{h0 with lines:=((HOI.out.on HB2.out).base HNS.out)},⟨fun h=>by omega,fun h=>fr.b (by omega),fun h=>fr.c (by omega),fun h=>fr.d (by omega),fun h=>fr.e (by omega),fun h=>fr.f (by omega)⟩,?_,HAT.out.keep.trans hk2 (fun _ _ h=>h) (fun _ _ h=>Gu HNS.out h)⟩;exact QAa HFF.out hq)
     clear hb1 c0 c1 z0 hgl hl4 hq;go_wp2_with fail
     go_roundw;case rel=>exact⟨1,i,M,_,_,by omega,by go_num,HNEW.out⟩
     case measure=>simp[intOf]
    |true=>
     have HQ:=AA hq;have HIL:=AA (Bl hq);go_wp2_with fail
     go_region_held3 (fun w'=>w'.cell? ⟨g,0,none⟩=some lv/\w'.cell? ⟨g,1,none⟩=some (.int .i64 i)/\w'.cell? ⟨b4,0,none⟩=some (.string ⟨#[108,105,110,101]⟩)/\Below wi.heap.size wi w')
     (first|exact⟨c0,c1,z0,Below.refl _ _⟩|exact⟨c0,c1,z0,AD _⟩|exact⟨(hb1.cell (p:=⟨g,0,none⟩) hgl).trans c0,(hb1.cell (p:=⟨g,1,none⟩) hgl).trans c1,(hb1.cell (p:=⟨b4,0,none⟩) hl4).trans z0,AC (AD _) hb1⟩)
     (first|(go_at_call 77;refine(Re HSI.out (s:=DG) HQ.out (AD _)).mono ?_;rintro e w2 ⟨rfl,hb1⟩))
     have HB2:=AA (AC (AD wi) hb1);have HS2:=AA (HSI.out.on HB2.out);have HO2:=AA (HOI.out.on HB2.out);have HX42:Hid (w2.heap[b4]?=some (.cells #[.string ⟨#[108,105,110,101]⟩,.func (.func 134) #[] #[]] 118 (0,0))):=AA (by rw[HB2.out.block b4 hl4];exact HX4I.out);have y1:w2.cell? ⟨b4,1,none⟩=some (.func (.func 134) #[] #[]):=by rw[Lib.cell_of_heap HX42.out];rfl
     have hl42:=(Array.getElem?_eq_some_iff.1 HX42.out).1;clear hb1 c0 c1 z0 hgl hl4;obtain⟨f',rfl,⟨a,j,h1,h2⟩|⟨e2,q2,h1,h2⟩⟩:=QAZ HFF.out hq
     ·have HCT:=AA (QFi HS2.out HWD.out (by have:=HGN.out;have:=HNS.out;omega) (by have:=HB2.out.size;have:=HKI.out.size;omega) HO2.out (by have:=HLL.out;have:=HIL.out;have:=HLM.out;omega) HIL.out h1);go_wp2_with fail
      refine HCT.out.mono ?_;intro e w3 hp;clear y1 hl42;obtain⟨hkp,he,v2,hs3,ho3⟩:=hp;obtain rfl:=he;have HNEXT:Hid (∃(i:Nat) (M:List Tok) (v:Value) (l:List (List Cel)) (f:Nat),S5 M B g lv i {p with a:=v} w3/\CE M/\M.length=n/\AG (Ko g lv W.heap.size) W w3/\Iq w3 W.heap.size v l/\l.length<=i/\V1 M F f i {P with lines:=l}=some r):=AA ⟨j,M,v2,l++[a],f',hs3,HWD.out,HLM.out,(AT HKI.out HB2.out).trans hkp (fun _ _ h=>h) (fun _ _ h=>h),ho3,by have hll:=HLL.out;exact(by have:=FM _ _ _ h1;have:=this.1;rw[List.length_append];simp;omega),h2⟩
      have HMZ:Hid (n-(intOf (BM g 1 w3)).toNat<n-(intOf (BM g 1 wi)).toNat):=AA (by
       obtain⟨q3,hq3⟩:=hs3.blk;rw[DZ hq3.cells.c1,HME.out];have h9:i<j:=(by have:=(FM _ _ _ h1).1;omega)
       have h8:=HIL.out;have h7:=HLM.out;simp only[intOf,Int.toNat_natCast];omega)
      have hne0:((0:Int) != 0)=false:=by decide
      clear hkp hs3 ho3 h1 h2 hq;go_wp2_with fail
      go_roundw;case rel=>(repeat apply Exists.intro);exact⟨HNEXT.out,rfl⟩
      case measure=>exact HMZ.out
     ·have HCT:=AA (QFi HS2.out HWD.out (by have:=HGN.out;have:=HNS.out;omega) (by have:=HB2.out.size;have:=HKI.out.size;omega) HO2.out (by have:=HLL.out;have:=HIL.out;have:=HLM.out;omega) HIL.out h1);go_wp2_with fail
      refine HCT.out.mono ?_;intro e w3 hp;clear y1 hl42;obtain⟨hkp,he,hne,i3,p3,hb3⟩:=hp;obtain rfl:=he;have hne2:(e2 != 0)=true:=by simp[hne]
      have HNE:=AA hne;have HB3:=AA hb3;have HRR:Hid (r=.bad e2 q2):=AA h2;have HKF:Hid (AG (Ko g lv N) w w3):=AA (HAT.out.keep.trans ((AT HKI.out HB2.out).trans hkp (fun _ _ h=>h) (fun _ _ h=>h)) (fun _ _ h=>h) (fun _ _ h=>Gu HNS.out h));clear hkp hne hb3 h1 h2 hq;go_wp2_with fail
      go_ret;rw[HRR.out];exact⟨HKF.out,rfl,HNE.out,i3,p3,HB3.out⟩
  ·have hx:=QGO;go_wp2_with fail
   obtain⟨b4,hb4⟩:∃b4,wo.heap.size=b4:=⟨_,rfl⟩
   have hX4:=heap_alloc_new wo (.cells #[.string ⟨#[118,111,108]⟩,.func (.func 135) #[] #[]] 118);have hBX:Below wo.heap.size wo (wo.alloc (.cells #[.string ⟨#[118,111,108]⟩,.func (.func 135) #[] #[]] 118)):=(Below.refl _ _).alloc (Nat.le_refl _) _;rw[hb4]at hX4⊢;have HAW:Hid (Xm F 1 B g N n lv r i M p P w (wo.alloc (.cells #[.string ⟨#[118,111,108]⟩,.func (.func 135) #[] #[]] 118))):=AA ⟨HAT.out.st.on hBX,HAT.out.wd,HAT.out.ln,HAT.out.own.on hBX,HAT.out.fresh,HAT.out.fut,AT HAT.out.keep hBX⟩;have HN4:Hid (N<=b4):=AA (by rw[<-hb4];have:=HAT.out.keep.size;have:=HNW.out;omega)
   generalize wo.alloc (.cells #[.string ⟨#[118,111,108]⟩,.func (.func 135) #[] #[]] 118)=W at *;replace HAT:=HAW;have HFR:=AA (HAT.out.fresh.b (Nat.le_refl _));have hl4W:=(Array.getElem?_eq_some_iff.1 hX4).1;have HX4:=AA hX4;have HNS:Hid (N<=W.heap.size):=AA (by have:=HN4.out;omega);have HL4:=AA hl4W;clear hX4 hBX hb4 HAW hx hl4W;go_loopw [5] (fun _ wi=>∃(i:Nat) (M:List Tok) (v:Value) (l:List Cel) (f:Nat),S5 M B g lv i {p with b:=v} wi/\CE M/\M.length=n/\AG (Ko g lv W.heap.size) W wi/\Bw wi W.heap.size v l/\l.length<=i/\UO M F f i {P with vols:=l}=some r)
    (fun _ wi=>n-(intOf (BM g 1 wi)).toNat)
   case atStart=>exact⟨i,M,p.b,P.vols,F,HAT.out.st,HAT.out.wd,HAT.out.ln,AG.refl _ _,by rw[HFR.out.1,HFR.out.2];exact Hj _ _,by rw[HFR.out.2];exact Nat.zero_le _,HAT.out.fut⟩
   case round=>
    obtain⟨wi,hwi⟩:∃x:World,x=wr:=⟨_,rfl⟩
    subst hwi;obtain⟨i,M,v,l,f,hs,hwd,hln,hki,ho,hll,hf⟩:=hrel;have HSI:=AA hs;have HWD:=AA hwd;have HLM:=AA hln;have HKI:=AA hki;have HOI:=AA ho;have HLL:=AA hll;have HFF:=AA hf;obtain⟨q0,hb0⟩:=hs.blk;obtain⟨hgl,c0,c1, -, -, -, -, -, -, -, -⟩:=hb0.cells;have hme:intOf (BM g 1 wi)=i:=by rw[DZ c1];rfl
    have HME:=AA hme;have HX4I:Hid (wi.heap[b4]?=some (.cells #[.string ⟨#[118,111,108]⟩,.func (.func 135) #[] #[]] 118 (0,0))):=AA (by
     rw[hki.block b4 HL4.out (Fo (N:=N) HGN.out HLN.out (Nat.le_refl _) b4 HN4.out HL4.out)];exact HX4.out)
    have hl4:=(Array.getElem?_eq_some_iff.1 HX4I.out).1;have z0:wi.cell? ⟨b4,0,none⟩=some (.string ⟨#[118,111,108]⟩):=by rw[Lib.cell_of_heap HX4I.out];rfl
    clear hs hwd hln hki ho hll hf hb0 hme;cases hq:isB M i F7 with
    |false=>
     have HQ:=AA hq;go_wp2_with fail
     go_region_held3 (fun w'=>w'.cell? ⟨g,0,none⟩=some lv/\w'.cell? ⟨g,1,none⟩=some (.int .i64 i)/\w'.cell? ⟨b4,0,none⟩=some (.string ⟨#[118,111,108]⟩)/\Below wi.heap.size wi w')
     (first|exact⟨c0,c1,z0,Below.refl _ _⟩|exact⟨c0,c1,z0,AD _⟩|exact⟨(hb1.cell (p:=⟨g,0,none⟩) hgl).trans c0,(hb1.cell (p:=⟨g,1,none⟩) hgl).trans c1,(hb1.cell (p:=⟨b4,0,none⟩) hl4).trans z0,AC (AD _) hb1⟩)
     (first|(go_at_call 77;refine(Re HSI.out (s:=F7) HQ.out (AD _)).mono ?_;rintro e w2 ⟨rfl,hb1⟩))
     have HB2:=AA (AC (AD wi) hb1);have HNEW:Hid (Xm F 2 B g N n lv r i M {p with b:=v} {P with vols:=l} w w2):=AA (by
      have hk2:=AT HKI.out HB2.out;have h0:=HAT.out.own.keep hk2 (Fo HGN.out HLN.out (Nat.le_refl _));have fr:=HAT.out.fresh;refine⟨HSI.out.on HB2.out,HWD.out,HLM.out,{h0 with vols:=((HOI.out.on HB2.out).base HNS.out)},⟨fun h=>by omega,fun h=>by omega,fun h=>fr.c (by omega),fun h=>fr.d (by omega),fun h=>fr.e (by omega),fun h=>fr.f (by omega)⟩,?_,HAT.out.keep.trans hk2 (fun _ _ h=>h) (fun _ _ h=>Gu HNS.out h)⟩;exact QAc HFF.out hq)
     clear hb1 c0 c1 z0 hgl hl4 hq;go_wp2_with fail
     go_roundw;case rel=>exact⟨2,i,M,_,_,by omega,by go_num,HNEW.out⟩
     case measure=>simp[intOf]
    |true=>
     have HQ:=AA hq;have HIL:=AA (Bl hq);go_wp2_with fail
     go_region_held3 (fun w'=>w'.cell? ⟨g,0,none⟩=some lv/\w'.cell? ⟨g,1,none⟩=some (.int .i64 i)/\w'.cell? ⟨b4,0,none⟩=some (.string ⟨#[118,111,108]⟩)/\Below wi.heap.size wi w')
     (first|exact⟨c0,c1,z0,Below.refl _ _⟩|exact⟨c0,c1,z0,AD _⟩|exact⟨(hb1.cell (p:=⟨g,0,none⟩) hgl).trans c0,(hb1.cell (p:=⟨g,1,none⟩) hgl).trans c1,(hb1.cell (p:=⟨b4,0,none⟩) hl4).trans z0,AC (AD _) hb1⟩)
     (first|(go_at_call 77;refine(Re HSI.out (s:=F7) HQ.out (AD _)).mono ?_;rintro e w2 ⟨rfl,hb1⟩))
     have HB2:=AA (AC (AD wi) hb1);have HS2:=AA (HSI.out.on HB2.out);have HO2:=AA (HOI.out.on HB2.out);have HX42:Hid (w2.heap[b4]?=some (.cells #[.string ⟨#[118,111,108]⟩,.func (.func 135) #[] #[]] 118 (0,0))):=AA (by rw[HB2.out.block b4 hl4];exact HX4I.out);have y1:w2.cell? ⟨b4,1,none⟩=some (.func (.func 135) #[] #[]):=by rw[Lib.cell_of_heap HX42.out];rfl
     have hl42:=(Array.getElem?_eq_some_iff.1 HX42.out).1;clear hb1 c0 c1 z0 hgl hl4;obtain⟨f',rfl,⟨a,j,h1,h2⟩|⟨e2,q2,h1,h2⟩⟩:=QAb HFF.out hq
     ·have HCT:=AA (QFj HS2.out HWD.out (by have:=HGN.out;have:=HNS.out;omega) (by have:=HB2.out.size;have:=HKI.out.size;omega) HO2.out (by have:=HLL.out;have:=HIL.out;have:=HLM.out;omega) HIL.out h1);go_wp2_with fail
      refine HCT.out.mono ?_;intro e w3 hp;clear y1 hl42;obtain⟨hkp,he,v2,hs3,ho3⟩:=hp;obtain rfl:=he;have HNEXT:Hid (∃(i:Nat) (M:List Tok) (v:Value) (l:List Cel) (f:Nat),S5 M B g lv i {p with b:=v} w3/\CE M/\M.length=n/\AG (Ko g lv W.heap.size) W w3/\Bw w3 W.heap.size v l/\l.length<=i/\UO M F f i {P with vols:=l}=some r):=AA ⟨j,M,v2,l++a,f',hs3,HWD.out,HLM.out,(AT HKI.out HB2.out).trans hkp (fun _ _ h=>h) (fun _ _ h=>h),ho3,by have hll:=HLL.out;exact(by have:=Su _ _ _ _ h1;rw[List.length_append];omega),h2⟩
      have HMZ:Hid (n-(intOf (BM g 1 w3)).toNat<n-(intOf (BM g 1 wi)).toNat):=AA (by
       obtain⟨q3,hq3⟩:=hs3.blk;rw[DZ hq3.cells.c1,HME.out];have h9:i<j:=(by have:=(FM _ _ _ h1).1;omega)
       have h8:=HIL.out;have h7:=HLM.out;simp only[intOf,Int.toNat_natCast];omega)
      have hne0:((0:Int) != 0)=false:=by decide
      clear hkp hs3 ho3 h1 h2 hq;go_wp2_with fail
      go_roundw;case rel=>(repeat apply Exists.intro);exact⟨HNEXT.out,rfl⟩
      case measure=>exact HMZ.out
     ·have HCT:=AA (QFj HS2.out HWD.out (by have:=HGN.out;have:=HNS.out;omega) (by have:=HB2.out.size;have:=HKI.out.size;omega) HO2.out (by have:=HLL.out;have:=HIL.out;have:=HLM.out;omega) HIL.out h1);go_wp2_with fail
      refine HCT.out.mono ?_;intro e w3 hp;clear y1 hl42;obtain⟨hkp,he,hne,i3,p3,hb3⟩:=hp;obtain rfl:=he;have hne2:(e2 != 0)=true:=by simp[hne]
      have HNE:=AA hne;have HB3:=AA hb3;have HRR:Hid (r=.bad e2 q2):=AA h2;have HKF:Hid (AG (Ko g lv N) w w3):=AA (HAT.out.keep.trans ((AT HKI.out HB2.out).trans hkp (fun _ _ h=>h) (fun _ _ h=>h)) (fun _ _ h=>h) (fun _ _ h=>Gu HNS.out h));clear hkp hne hb3 h1 h2 hq;go_wp2_with fail
      go_ret;rw[HRR.out];exact⟨HKF.out,rfl,HNE.out,i3,p3,HB3.out⟩
  ·have hx:=QGP;go_wp2_with fail
   obtain⟨b4,hb4⟩:∃b4,wo.heap.size=b4:=⟨_,rfl⟩
   have hX4:=heap_alloc_new wo (.cells #[.string ⟨#[108,111,99,107]⟩,.func (.func 136) #[] #[]] 118);have hBX:Below wo.heap.size wo (wo.alloc (.cells #[.string ⟨#[108,111,99,107]⟩,.func (.func 136) #[] #[]] 118)):=(Below.refl _ _).alloc (Nat.le_refl _) _;rw[hb4]at hX4⊢;have HAW:Hid (Xm F 2 B g N n lv r i M p P w (wo.alloc (.cells #[.string ⟨#[108,111,99,107]⟩,.func (.func 136) #[] #[]] 118))):=AA ⟨HAT.out.st.on hBX,HAT.out.wd,HAT.out.ln,HAT.out.own.on hBX,HAT.out.fresh,HAT.out.fut,AT HAT.out.keep hBX⟩;have HN4:Hid (N<=b4):=AA (by rw[<-hb4];have:=HAT.out.keep.size;have:=HNW.out;omega)
   generalize wo.alloc (.cells #[.string ⟨#[108,111,99,107]⟩,.func (.func 136) #[] #[]] 118)=W at *;replace HAT:=HAW;have HFR:=AA (HAT.out.fresh.c (Nat.le_refl _));have hl4W:=(Array.getElem?_eq_some_iff.1 hX4).1;have HX4:=AA hX4;have HNS:Hid (N<=W.heap.size):=AA (by have:=HN4.out;omega);have HL4:=AA hl4W;clear hX4 hBX hb4 HAW hx hl4W;go_loopw [5] (fun _ wi=>∃(i:Nat) (M:List Tok) (v:Value) (l:List Cel) (f:Nat),S5 M B g lv i {p with c:=v} wi/\CE M/\M.length=n/\AG (Ko g lv W.heap.size) W wi/\Bw wi W.heap.size v l/\l.length<=i/\UN M F f i {P with locks:=l}=some r)
    (fun _ wi=>n-(intOf (BM g 1 wi)).toNat)
   case atStart=>exact⟨i,M,p.c,P.locks,F,HAT.out.st,HAT.out.wd,HAT.out.ln,AG.refl _ _,by rw[HFR.out.1,HFR.out.2];exact Hj _ _,by rw[HFR.out.2];exact Nat.zero_le _,HAT.out.fut⟩
   case round=>
    obtain⟨wi,hwi⟩:∃x:World,x=wr:=⟨_,rfl⟩
    subst hwi;obtain⟨i,M,v,l,f,hs,hwd,hln,hki,ho,hll,hf⟩:=hrel;have HSI:=AA hs;have HWD:=AA hwd;have HLM:=AA hln;have HKI:=AA hki;have HOI:=AA ho;have HLL:=AA hll;have HFF:=AA hf;obtain⟨q0,hb0⟩:=hs.blk;obtain⟨hgl,c0,c1, -, -, -, -, -, -, -, -⟩:=hb0.cells;have hme:intOf (BM g 1 wi)=i:=by rw[DZ c1];rfl
    have HME:=AA hme;have HX4I:Hid (wi.heap[b4]?=some (.cells #[.string ⟨#[108,111,99,107]⟩,.func (.func 136) #[] #[]] 118 (0,0))):=AA (by
     rw[hki.block b4 HL4.out (Fo (N:=N) HGN.out HLN.out (Nat.le_refl _) b4 HN4.out HL4.out)];exact HX4.out)
    have hl4:=(Array.getElem?_eq_some_iff.1 HX4I.out).1;have z0:wi.cell? ⟨b4,0,none⟩=some (.string ⟨#[108,111,99,107]⟩):=by rw[Lib.cell_of_heap HX4I.out];rfl
    clear hs hwd hln hki ho hll hf hb0 hme;cases hq:isB M i Cf with
    |false=>
     have HQ:=AA hq;go_wp2_with fail
     go_region_held3 (fun w'=>w'.cell? ⟨g,0,none⟩=some lv/\w'.cell? ⟨g,1,none⟩=some (.int .i64 i)/\w'.cell? ⟨b4,0,none⟩=some (.string ⟨#[108,111,99,107]⟩)/\Below wi.heap.size wi w')
     (first|exact⟨c0,c1,z0,Below.refl _ _⟩|exact⟨c0,c1,z0,AD _⟩|exact⟨(hb1.cell (p:=⟨g,0,none⟩) hgl).trans c0,(hb1.cell (p:=⟨g,1,none⟩) hgl).trans c1,(hb1.cell (p:=⟨b4,0,none⟩) hl4).trans z0,AC (AD _) hb1⟩)
     (first|(go_at_call 77;refine(Re HSI.out (s:=Cf) HQ.out (AD _)).mono ?_;rintro e w2 ⟨rfl,hb1⟩))
     have HB2:=AA (AC (AD wi) hb1);have HNEW:Hid (Xm F 3 B g N n lv r i M {p with c:=v} {P with locks:=l} w w2):=AA (by
      have hk2:=AT HKI.out HB2.out;have h0:=HAT.out.own.keep hk2 (Fo HGN.out HLN.out (Nat.le_refl _));have fr:=HAT.out.fresh;refine⟨HSI.out.on HB2.out,HWD.out,HLM.out,{h0 with locks:=((HOI.out.on HB2.out).base HNS.out)},⟨fun h=>by omega,fun h=>by omega,fun h=>by omega,fun h=>fr.d (by omega),fun h=>fr.e (by omega),fun h=>fr.f (by omega)⟩,?_,HAT.out.keep.trans hk2 (fun _ _ h=>h) (fun _ _ h=>Gu HNS.out h)⟩;exact QAe HFF.out hq)
     clear hb1 c0 c1 z0 hgl hl4 hq;go_wp2_with fail
     go_roundw;case rel=>exact⟨3,i,M,_,_,by omega,by go_num,HNEW.out⟩
     case measure=>simp[intOf]
    |true=>
     have HQ:=AA hq;have HIL:=AA (Bl hq);go_wp2_with fail
     go_region_held3 (fun w'=>w'.cell? ⟨g,0,none⟩=some lv/\w'.cell? ⟨g,1,none⟩=some (.int .i64 i)/\w'.cell? ⟨b4,0,none⟩=some (.string ⟨#[108,111,99,107]⟩)/\Below wi.heap.size wi w')
     (first|exact⟨c0,c1,z0,Below.refl _ _⟩|exact⟨c0,c1,z0,AD _⟩|exact⟨(hb1.cell (p:=⟨g,0,none⟩) hgl).trans c0,(hb1.cell (p:=⟨g,1,none⟩) hgl).trans c1,(hb1.cell (p:=⟨b4,0,none⟩) hl4).trans z0,AC (AD _) hb1⟩)
     (first|(go_at_call 77;refine(Re HSI.out (s:=Cf) HQ.out (AD _)).mono ?_;rintro e w2 ⟨rfl,hb1⟩))
     have HB2:=AA (AC (AD wi) hb1);have HS2:=AA (HSI.out.on HB2.out);have HO2:=AA (HOI.out.on HB2.out);have HX42:Hid (w2.heap[b4]?=some (.cells #[.string ⟨#[108,111,99,107]⟩,.func (.func 136) #[] #[]] 118 (0,0))):=AA (by rw[HB2.out.block b4 hl4];exact HX4I.out);have y1:w2.cell? ⟨b4,1,none⟩=some (.func (.func 136) #[] #[]):=by rw[Lib.cell_of_heap HX42.out];rfl
     have hl42:=(Array.getElem?_eq_some_iff.1 HX42.out).1;clear hb1 c0 c1 z0 hgl hl4;obtain⟨f',rfl,⟨a,j,h1,h2⟩|⟨e2,q2,h1,h2⟩⟩:=QAd HFF.out hq
     ·have HCT:=AA (QCr HS2.out HWD.out (by have:=HGN.out;have:=HNS.out;omega) (by have:=HB2.out.size;have:=HKI.out.size;omega) HO2.out (by have:=HLL.out;have:=HIL.out;have:=HLM.out;omega) HIL.out h1);go_wp2_with fail
      refine HCT.out.mono ?_;intro e w3 hp;clear y1 hl42;obtain⟨hkp,he,v2,hs3,ho3⟩:=hp;obtain rfl:=he;have HNEXT:Hid (∃(i:Nat) (M:List Tok) (v:Value) (l:List Cel) (f:Nat),S5 M B g lv i {p with c:=v} w3/\CE M/\M.length=n/\AG (Ko g lv W.heap.size) W w3/\Bw w3 W.heap.size v l/\l.length<=i/\UN M F f i {P with locks:=l}=some r):=AA ⟨j,M,v2,l++a,f',hs3,HWD.out,HLM.out,(AT HKI.out HB2.out).trans hkp (fun _ _ h=>h) (fun _ _ h=>h),ho3,by have hll:=HLL.out;exact(by have:=Su _ _ _ _ h1;rw[List.length_append];omega),h2⟩
      have HMZ:Hid (n-(intOf (BM g 1 w3)).toNat<n-(intOf (BM g 1 wi)).toNat):=AA (by
       obtain⟨q3,hq3⟩:=hs3.blk;rw[DZ hq3.cells.c1,HME.out];have h9:i<j:=(by have:=(FM _ _ _ h1).1;omega)
       have h8:=HIL.out;have h7:=HLM.out;simp only[intOf,Int.toNat_natCast];omega)
      have hne0:((0:Int) != 0)=false:=by decide
      clear hkp hs3 ho3 h1 h2 hq;go_wp2_with fail
      go_roundw;case rel=>(repeat apply Exists.intro);exact⟨HNEXT.out,rfl⟩
      case measure=>exact HMZ.out
     ·have HCT:=AA (QCr HS2.out HWD.out (by have:=HGN.out;have:=HNS.out;omega) (by have:=HB2.out.size;have:=HKI.out.size;omega) HO2.out (by have:=HLL.out;have:=HIL.out;have:=HLM.out;omega) HIL.out h1);go_wp2_with fail
      refine HCT.out.mono ?_;intro e w3 hp;clear y1 hl42;obtain⟨hkp,he,hne,i3,p3,hb3⟩:=hp;obtain rfl:=he;have hne2:(e2 != 0)=true:=by simp[hne]
      have HNE:=AA hne;have HB3:=AA hb3;have HRR:Hid (r=.bad e2 q2):=AA h2;have HKF:Hid (AG (Ko g lv N) w w3):=AA (HAT.out.keep.trans ((AT HKI.out HB2.out).trans hkp (fun _ _ h=>h) (fun _ _ h=>h)) (fun _ _ h=>h) (fun _ _ h=>Gu HNS.out h));clear hkp hne hb3 h1 h2 hq;go_wp2_with fail
      go_ret;rw[HRR.out];exact⟨HKF.out,rfl,HNE.out,i3,p3,HB3.out⟩
  ·have hx:=QGQ;go_wp2_with fail
   obtain⟨b4,hb4⟩:∃b4,wo.heap.size=b4:=⟨_,rfl⟩
   have hX4:=heap_alloc_new wo (.cells #[.string ⟨#[116,104,114,101,97,100]⟩,.func (.func 137) #[] #[]] 118);have hBX:Below wo.heap.size wo (wo.alloc (.cells #[.string ⟨#[116,104,114,101,97,100]⟩,.func (.func 137) #[] #[]] 118)):=(Below.refl _ _).alloc (Nat.le_refl _) _;rw[hb4]at hX4⊢;have HAW:Hid (Xm F 3 B g N n lv r i M p P w (wo.alloc (.cells #[.string ⟨#[116,104,114,101,97,100]⟩,.func (.func 137) #[] #[]] 118))):=AA ⟨HAT.out.st.on hBX,HAT.out.wd,HAT.out.ln,HAT.out.own.on hBX,HAT.out.fresh,HAT.out.fut,AT HAT.out.keep hBX⟩;have HN4:Hid (N<=b4):=AA (by rw[<-hb4];have:=HAT.out.keep.size;have:=HNW.out;omega)
   generalize wo.alloc (.cells #[.string ⟨#[116,104,114,101,97,100]⟩,.func (.func 137) #[] #[]] 118)=W at *;replace HAT:=HAW;have HFR:=AA (HAT.out.fresh.d (Nat.le_refl _));have hl4W:=(Array.getElem?_eq_some_iff.1 hX4).1;have HX4:=AA hX4;have HNS:Hid (N<=W.heap.size):=AA (by have:=HN4.out;omega);have HL4:=AA hl4W;clear hX4 hBX hb4 HAW hx hl4W;go_loopw [5] (fun _ wi=>∃(i:Nat) (M:List Tok) (v:Value) (l:List Thr) (f:Nat),S5 M B g lv i {p with d:=v} wi/\CE M/\M.length=n/\AG (Ko g lv W.heap.size) W wi/\EV wi W.heap.size v l/\l.length<=i/\fut3 M F f i {P with threads:=l}=some r)
    (fun _ wi=>n-(intOf (BM g 1 wi)).toNat)
   case atStart=>exact⟨i,M,p.d,P.threads,F,HAT.out.st,HAT.out.wd,HAT.out.ln,AG.refl _ _,by rw[HFR.out.1,HFR.out.2];exact Jh _ _,by rw[HFR.out.2];exact Nat.zero_le _,HAT.out.fut⟩
   case round=>
    obtain⟨wi,hwi⟩:∃x:World,x=wr:=⟨_,rfl⟩
    subst hwi;obtain⟨i,M,v,l,f,hs,hwd,hln,hki,ho,hll,hf⟩:=hrel;have HSI:=AA hs;have HWD:=AA hwd;have HLM:=AA hln;have HKI:=AA hki;have HOI:=AA ho;have HLL:=AA hll;have HFF:=AA hf;obtain⟨q0,hb0⟩:=hs.blk;obtain⟨hgl,c0,c1, -, -, -, -, -, -, -, -⟩:=hb0.cells;have hme:intOf (BM g 1 wi)=i:=by rw[DZ c1];rfl
    have HME:=AA hme;have HX4I:Hid (wi.heap[b4]?=some (.cells #[.string ⟨#[116,104,114,101,97,100]⟩,.func (.func 137) #[] #[]] 118 (0,0))):=AA (by
     rw[hki.block b4 HL4.out (Fo (N:=N) HGN.out HLN.out (Nat.le_refl _) b4 HN4.out HL4.out)];exact HX4.out)
    have hl4:=(Array.getElem?_eq_some_iff.1 HX4I.out).1;have z0:wi.cell? ⟨b4,0,none⟩=some (.string ⟨#[116,104,114,101,97,100]⟩):=by rw[Lib.cell_of_heap HX4I.out];rfl
    clear hs hwd hln hki ho hll hf hb0 hme;cases hq:isB M i BX with
    |false=>
     have HQ:=AA hq;go_wp2_with fail
     go_region_held3 (fun w'=>w'.cell? ⟨g,0,none⟩=some lv/\w'.cell? ⟨g,1,none⟩=some (.int .i64 i)/\w'.cell? ⟨b4,0,none⟩=some (.string ⟨#[116,104,114,101,97,100]⟩)/\Below wi.heap.size wi w')
     (first|exact⟨c0,c1,z0,Below.refl _ _⟩|exact⟨c0,c1,z0,AD _⟩|exact⟨(hb1.cell (p:=⟨g,0,none⟩) hgl).trans c0,(hb1.cell (p:=⟨g,1,none⟩) hgl).trans c1,(hb1.cell (p:=⟨b4,0,none⟩) hl4).trans z0,AC (AD _) hb1⟩)
     (first|(go_at_call 77;refine(Re HSI.out (s:=BX) HQ.out (AD _)).mono ?_;rintro e w2 ⟨rfl,hb1⟩))
     have HB2:=AA (AC (AD wi) hb1);have HNEW:Hid (Xm F 4 B g N n lv r i M {p with d:=v} {P with threads:=l} w w2):=AA (by
      have hk2:=AT HKI.out HB2.out;have h0:=HAT.out.own.keep hk2 (Fo HGN.out HLN.out (Nat.le_refl _));have fr:=HAT.out.fresh;refine⟨HSI.out.on HB2.out,HWD.out,HLM.out,{h0 with threads:=((HOI.out.on HB2.out).base HNS.out)},⟨fun h=>by omega,fun h=>by omega,fun h=>by omega,fun h=>by omega,fun h=>fr.e (by omega),fun h=>fr.f (by omega)⟩,?_,HAT.out.keep.trans hk2 (fun _ _ h=>h) (fun _ _ h=>Gu HNS.out h)⟩;exact QAg HFF.out hq)
     clear hb1 c0 c1 z0 hgl hl4 hq;go_wp2_with fail
     go_roundw;case rel=>exact⟨4,i,M,_,_,by omega,by go_num,HNEW.out⟩
     case measure=>simp[intOf]
    |true=>
     have HQ:=AA hq;have HIL:=AA (Bl hq);go_wp2_with fail
     go_region_held3 (fun w'=>w'.cell? ⟨g,0,none⟩=some lv/\w'.cell? ⟨g,1,none⟩=some (.int .i64 i)/\w'.cell? ⟨b4,0,none⟩=some (.string ⟨#[116,104,114,101,97,100]⟩)/\Below wi.heap.size wi w')
     (first|exact⟨c0,c1,z0,Below.refl _ _⟩|exact⟨c0,c1,z0,AD _⟩|exact⟨(hb1.cell (p:=⟨g,0,none⟩) hgl).trans c0,(hb1.cell (p:=⟨g,1,none⟩) hgl).trans c1,(hb1.cell (p:=⟨b4,0,none⟩) hl4).trans z0,AC (AD _) hb1⟩)
     (first|(go_at_call 77;refine(Re HSI.out (s:=BX) HQ.out (AD _)).mono ?_;rintro e w2 ⟨rfl,hb1⟩))
     have HB2:=AA (AC (AD wi) hb1);have HS2:=AA (HSI.out.on HB2.out);have HO2:=AA (HOI.out.on HB2.out);have HX42:Hid (w2.heap[b4]?=some (.cells #[.string ⟨#[116,104,114,101,97,100]⟩,.func (.func 137) #[] #[]] 118 (0,0))):=AA (by rw[HB2.out.block b4 hl4];exact HX4I.out);have y1:w2.cell? ⟨b4,1,none⟩=some (.func (.func 137) #[] #[]):=by rw[Lib.cell_of_heap HX42.out];rfl
     have hl42:=(Array.getElem?_eq_some_iff.1 HX42.out).1;clear hb1 c0 c1 z0 hgl hl4;obtain⟨f',rfl,⟨a,j,h1,h2⟩|⟨e2,q2,h1,h2⟩⟩:=QAf HFF.out hq
     ·have HCT:=AA (Yg HS2.out HWD.out (by have:=HGN.out;have:=HNS.out;omega) (fun q hq=>by have:=HLN.out q hq;have:=HNS.out;omega) (by have:=HB2.out.size;have:=HKI.out.size;omega) HO2.out (by have:=HLL.out;have:=HIL.out;have:=HLM.out;omega) HIL.out h1);go_wp2_with fail
      refine HCT.out.mono ?_;intro e w3 hp;clear y1 hl42;obtain⟨hkp,he,v2,M2,hag,hwd2,hs3,ho3⟩:=hp;obtain rfl:=he
      have HNEXT:Hid (∃(i:Nat) (M:List Tok) (v:Value) (l:List Thr) (f:Nat),S5 M B g lv i {p with d:=v} w3/\CE M/\M.length=n/\AG (Ko g lv W.heap.size) W w3/\EV w3 W.heap.size v l/\l.length<=i/\fut3 M F f i {P with threads:=l}=some r):=AA ⟨j,M2,v2,l++[a],f',hs3,hwd2,hag.len.symm.trans HLM.out,(AT HKI.out HB2.out).trans hkp (fun _ _ h=>h) (fun _ _ h=>h),ho3,by have hll:=HLL.out;exact(by have:=(GM M F).ahead _ _ hq h1;have:=this.1;rw[List.length_append];simp;omega),(by rw[<-EW.fut3 hag (by rw[hag.len];exact hs3.il)];exact h2)⟩
      have HMZ:Hid (n-(intOf (BM g 1 w3)).toNat<n-(intOf (BM g 1 wi)).toNat):=AA (by
       obtain⟨q3,hq3⟩:=hs3.blk;rw[DZ hq3.cells.c1,HME.out];have h9:i<j:=((GM M F).ahead _ _ hq h1).1;have h8:=HIL.out;have h7:=HLM.out;simp only[intOf,Int.toNat_natCast];omega)
      have hne0:((0:Int) != 0)=false:=by decide
      clear hkp hs3 ho3 h1 h2 hq;go_wp2_with fail
      go_roundw;case rel=>(repeat apply Exists.intro);exact⟨HNEXT.out,rfl⟩
      case measure=>exact HMZ.out
     ·have HCT:=AA (Yg HS2.out HWD.out (by have:=HGN.out;have:=HNS.out;omega) (fun q hq=>by have:=HLN.out q hq;have:=HNS.out;omega) (by have:=HB2.out.size;have:=HKI.out.size;omega) HO2.out (by have:=HLL.out;have:=HIL.out;have:=HLM.out;omega) HIL.out h1);go_wp2_with fail
      refine HCT.out.mono ?_;intro e w3 hp;clear y1 hl42;obtain⟨hkp,he,hne,i3,p3,hb3⟩:=hp;obtain rfl:=he;have hne2:(e2 != 0)=true:=by simp[hne]
      have HNE:=AA hne;have HB3:=AA hb3;have HRR:Hid (r=.bad e2 q2):=AA h2;have HKF:Hid (AG (Ko g lv N) w w3):=AA (HAT.out.keep.trans ((AT HKI.out HB2.out).trans hkp (fun _ _ h=>h) (fun _ _ h=>h)) (fun _ _ h=>h) (fun _ _ h=>Gu HNS.out h));clear hkp hne hb3 h1 h2 hq;go_wp2_with fail
      go_ret;rw[HRR.out];exact⟨HKF.out,rfl,HNE.out,i3,p3,HB3.out⟩
  ·have hx:=QGR;go_wp2_with fail
   obtain⟨b4,hb4⟩:∃b4,wo.heap.size=b4:=⟨_,rfl⟩
   have hX4:=heap_alloc_new wo (.cells #[.string ⟨#[114,101,99,111,118,101,114]⟩,.func (.func 138) #[] #[]] 118);have hBX:Below wo.heap.size wo (wo.alloc (.cells #[.string ⟨#[114,101,99,111,118,101,114]⟩,.func (.func 138) #[] #[]] 118)):=(Below.refl _ _).alloc (Nat.le_refl _) _;rw[hb4]at hX4⊢;have HAW:Hid (Xm F 4 B g N n lv r i M p P w (wo.alloc (.cells #[.string ⟨#[114,101,99,111,118,101,114]⟩,.func (.func 138) #[] #[]] 118))):=AA ⟨HAT.out.st.on hBX,HAT.out.wd,HAT.out.ln,HAT.out.own.on hBX,HAT.out.fresh,HAT.out.fut,AT HAT.out.keep hBX⟩;have HN4:Hid (N<=b4):=AA (by rw[<-hb4];have:=HAT.out.keep.size;have:=HNW.out;omega)
   generalize wo.alloc (.cells #[.string ⟨#[114,101,99,111,118,101,114]⟩,.func (.func 138) #[] #[]] 118)=W at *;replace HAT:=HAW;have HFR:=AA (HAT.out.fresh.e (Nat.le_refl _));have hl4W:=(Array.getElem?_eq_some_iff.1 hX4).1;have HX4:=AA hX4;have HNS:Hid (N<=W.heap.size):=AA (by have:=HN4.out;omega);have HL4:=AA hl4W;clear hX4 hBX hb4 HAW hx hl4W
   go_loopw [5] (fun _ wi=>∃(i:Nat) (M:List Tok) (v:Value) (l:List Thr) (f:Nat),S5 M B g lv i {p with e:=v} wi/\CE M/\M.length=n/\AG (Ko g lv W.heap.size) W wi/\EV wi W.heap.size v l/\l.length<=i/\((l=[]/\fut4 M f i {P with recs:=l}=some r/\f=F)\/(l≠[]/\fut5 M F i {P with recs:=l}=some r)))
    (fun _ wi=>n-(intOf (BM g 1 wi)).toNat)
   case atStart=>exact⟨i,M,p.e,P.recs,F,HAT.out.st,HAT.out.wd,HAT.out.ln,AG.refl _ _,by rw[HFR.out.1,HFR.out.2];exact Jh _ _,by rw[HFR.out.2];exact Nat.zero_le _,.inl ⟨HFR.out.2,HAT.out.fut,rfl⟩⟩
   case round=>
    obtain⟨wi,hwi⟩:∃x:World,x=wr:=⟨_,rfl⟩
    subst hwi;obtain⟨i,M,v,l,f,hs,hwd,hln,hki,ho,hll,hf⟩:=hrel;have HSI:=AA hs;have HWD:=AA hwd;have HLM:=AA hln;have HKI:=AA hki;have HOI:=AA ho;have HLL:=AA hll;have HFF:=AA hf;obtain⟨q0,hb0⟩:=hs.blk;obtain⟨hgl,c0,c1, -, -, -, -, -, -, -, -⟩:=hb0.cells;have hme:intOf (BM g 1 wi)=i:=by rw[DZ c1];rfl
    have HME:=AA hme;have HX4I:Hid (wi.heap[b4]?=some (.cells #[.string ⟨#[114,101,99,111,118,101,114]⟩,.func (.func 138) #[] #[]] 118 (0,0))):=AA (by
     rw[hki.block b4 HL4.out (Fo (N:=N) HGN.out HLN.out (Nat.le_refl _) b4 HN4.out HL4.out)];exact HX4.out)
    have hl4:=(Array.getElem?_eq_some_iff.1 HX4I.out).1;have z0:wi.cell? ⟨b4,0,none⟩=some (.string ⟨#[114,101,99,111,118,101,114]⟩):=by rw[Lib.cell_of_heap HX4I.out];rfl
    clear hs hwd hln hki ho hll hf hb0 hme;cases hq:isB M i Az with
    |false=>
     have HQ:=AA hq;go_wp2_with fail
     go_region_held3 (fun w'=>w'.cell? ⟨g,0,none⟩=some lv/\w'.cell? ⟨g,1,none⟩=some (.int .i64 i)/\w'.cell? ⟨b4,0,none⟩=some (.string ⟨#[114,101,99,111,118,101,114]⟩)/\Below wi.heap.size wi w')
     (first|exact⟨c0,c1,z0,Below.refl _ _⟩|exact⟨c0,c1,z0,AD _⟩|exact⟨(hb1.cell (p:=⟨g,0,none⟩) hgl).trans c0,(hb1.cell (p:=⟨g,1,none⟩) hgl).trans c1,(hb1.cell (p:=⟨b4,0,none⟩) hl4).trans z0,AC (AD _) hb1⟩)
     (first|(go_at_call 77;refine(Re HSI.out (s:=Az) HQ.out (AD _)).mono ?_;rintro e w2 ⟨rfl,hb1⟩))
     have HB2:=AA (AC (AD wi) hb1);have HNEW:Hid (Xm F 5 B g N n lv r i M {p with e:=v} {P with recs:=l} w w2):=AA (by
      have hk2:=AT HKI.out HB2.out;have h0:=HAT.out.own.keep hk2 (Fo HGN.out HLN.out (Nat.le_refl _));have fr:=HAT.out.fresh;refine⟨HSI.out.on HB2.out,HWD.out,HLM.out,{h0 with recs:=((HOI.out.on HB2.out).base HNS.out)},⟨fun h=>by omega,fun h=>by omega,fun h=>by omega,fun h=>by omega,fun h=>by omega,fun h=>fr.f (by omega)⟩,?_,HAT.out.keep.trans hk2 (fun _ _ h=>h) (fun _ _ h=>Gu HNS.out h)⟩;rcases HFF.out with⟨_,hf,rfl⟩|⟨_,hf⟩
      ·exact QAi hf hq
      ·exact hf)
     clear hb1 c0 c1 z0 hgl hl4 hq;go_wp2_with fail
     go_roundw;case rel=>exact⟨5,i,M,_,_,by omega,by go_num,HNEW.out⟩
     case measure=>simp[intOf]
    |true=>
     have HQ:=AA hq;have HIL:=AA (Bl hq);go_wp2_with fail
     go_region_held3 (fun w'=>w'.cell? ⟨g,0,none⟩=some lv/\w'.cell? ⟨g,1,none⟩=some (.int .i64 i)/\w'.cell? ⟨b4,0,none⟩=some (.string ⟨#[114,101,99,111,118,101,114]⟩)/\Below wi.heap.size wi w')
     (first|exact⟨c0,c1,z0,Below.refl _ _⟩|exact⟨c0,c1,z0,AD _⟩|exact⟨(hb1.cell (p:=⟨g,0,none⟩) hgl).trans c0,(hb1.cell (p:=⟨g,1,none⟩) hgl).trans c1,(hb1.cell (p:=⟨b4,0,none⟩) hl4).trans z0,AC (AD _) hb1⟩)
     (first|(go_at_call 77;refine(Re HSI.out (s:=Az) HQ.out (AD _)).mono ?_;rintro e w2 ⟨rfl,hb1⟩))
     have HB2:=AA (AC (AD wi) hb1);have HS2:=AA (HSI.out.on HB2.out);have HO2:=AA (HOI.out.on HB2.out);have HX42:Hid (w2.heap[b4]?=some (.cells #[.string ⟨#[114,101,99,111,118,101,114]⟩,.func (.func 138) #[] #[]] 118 (0,0))):=AA (by rw[HB2.out.block b4 hl4];exact HX4I.out);have y1:w2.cell? ⟨b4,1,none⟩=some (.func (.func 138) #[] #[]):=by rw[Lib.cell_of_heap HX42.out];rfl
     have hl42:=(Array.getElem?_eq_some_iff.1 HX42.out).1;clear hb1 c0 c1 z0 hgl hl4;rcases HFF.out with⟨hl0,hf,hfF⟩|⟨hl0,hf⟩
     ·subst hl0;rw[hfF]at hf;rcases QAh hf hq with⟨a,j,h1,h2⟩|⟨e2,q2,h1,h2⟩
      ·have HCT:=AA (QCu HS2.out HWD.out (by have:=HGN.out;have:=HNS.out;omega) (fun q hq=>by have:=HLN.out q hq;have:=HNS.out;omega) (by have:=HB2.out.size;have:=HKI.out.size;omega) HO2.out HIL.out h1);go_wp2_with fail
       refine HCT.out.mono ?_;intro e w3 hp;clear y1 hl42;obtain⟨hkp,he,v2,M2,hag,hwd2,hs3,ho3⟩:=hp;obtain rfl:=he
       have HNEXT:Hid (∃(i:Nat) (M:List Tok) (v:Value) (l:List Thr) (f:Nat),S5 M B g lv i {p with e:=v} w3/\CE M/\M.length=n/\AG (Ko g lv W.heap.size) W w3/\EV w3 W.heap.size v l/\l.length<=i/\((l=[]/\fut4 M f i {P with recs:=l}=some r/\f=F)\/(l≠[]/\fut5 M F i {P with recs:=l}=some r))):=AA ⟨j,M2,v2,[]++[a],F,hs3,hwd2,hag.len.symm.trans HLM.out,(AT HKI.out HB2.out).trans hkp (fun _ _ h=>h) (fun _ _ h=>h),ho3,by have hll:=HLL.out;exact(by have:=Jo h1;have:=this.1;simp;omega),.inr ⟨by simp,by rw[<-EW.fut5 hag];exact h2⟩⟩
       have HMZ:Hid (n-(intOf (BM g 1 w3)).toNat<n-(intOf (BM g 1 wi)).toNat):=AA (by
        obtain⟨q3,hq3⟩:=hs3.blk;rw[DZ hq3.cells.c1,HME.out];have h9:i<j:=(by have:=(Jo h1).1;omega)
        have h8:=HIL.out;have h7:=HLM.out;simp only[intOf,Int.toNat_natCast];omega)
       have hne0:((0:Int) != 0)=false:=by decide
       clear hkp hs3 ho3 h1 h2 hq;go_wp2_with fail
       go_roundw;case rel=>(repeat apply Exists.intro);exact⟨HNEXT.out,rfl⟩
       case measure=>exact HMZ.out
      ·have HCT:=AA (QCu HS2.out HWD.out (by have:=HGN.out;have:=HNS.out;omega) (fun q hq=>by have:=HLN.out q hq;have:=HNS.out;omega) (by have:=HB2.out.size;have:=HKI.out.size;omega) HO2.out HIL.out h1);go_wp2_with fail
       refine HCT.out.mono ?_;intro e w3 hp;clear y1 hl42;obtain⟨hkp,he,hne,i3,p3,hb3⟩:=hp;obtain rfl:=he;have hne2:(e2 != 0)=true:=by simp[hne]
       have HNE:=AA hne;have HB3:=AA hb3;have HRR:Hid (r=.bad e2 q2):=AA h2;have HKF:Hid (AG (Ko g lv N) w w3):=AA (HAT.out.keep.trans ((AT HKI.out HB2.out).trans hkp (fun _ _ h=>h) (fun _ _ h=>h)) (fun _ _ h=>h) (fun _ _ h=>Gu HNS.out h));clear hkp hne hb3 h1 h2 hq;go_wp2_with fail
       go_ret;rw[HRR.out];exact⟨HKF.out,rfl,HNE.out,i3,p3,HB3.out⟩
     ·have h2:=QCb hf hq;have HCT:=AA (UY (N:=W.heap.size) HS2.out HO2.out hl0 HIL.out);have HBR:Hid ((badR M i 5:RS Thr)=.bad 5 (AN M i)):=AA (by unfold badR;rw[if_pos HIL.out]);have HRR:Hid (r=.bad 5 (AN M i)):=AA (by rw[h2];unfold badR;rw[if_pos HIL.out]);go_wp2_with fail
      refine HCT.out.mono ?_;rw[HBR.out];intro e w3 hp;clear y1 hl42;obtain⟨hkp,he,hne,i3,p3,hb3⟩:=hp;obtain rfl:=he;have hne2:((5:Int) != 0)=true:=by decide
      have HB3:=AA hb3;have HKF:Hid (AG (Ko g lv N) w w3):=AA (HAT.out.keep.trans ((AT HKI.out HB2.out).trans hkp (fun _ _ h=>h) (fun _ _ h=>h)) (fun _ _ h=>h) (fun _ _ h=>Gu HNS.out h));clear hkp hne hb3 h2 hq hf hl0;go_wp2_with fail
      go_ret;rw[HRR.out];exact⟨HKF.out,rfl,by decide,i3,p3,HB3.out⟩
  ·have hx:=QGS;go_wp2_with fail
   obtain⟨b4,hb4⟩:∃b4,wo.heap.size=b4:=⟨_,rfl⟩
   have hX4:=heap_alloc_new wo (.cells #[.string ⟨#[97,108,119,97,121,115]⟩,.func (.func 139) #[] #[]] 118);have hBX:Below wo.heap.size wo (wo.alloc (.cells #[.string ⟨#[97,108,119,97,121,115]⟩,.func (.func 139) #[] #[]] 118)):=(Below.refl _ _).alloc (Nat.le_refl _) _;rw[hb4]at hX4⊢;have HAW:Hid (Xm F 5 B g N n lv r i M p P w (wo.alloc (.cells #[.string ⟨#[97,108,119,97,121,115]⟩,.func (.func 139) #[] #[]] 118))):=AA ⟨HAT.out.st.on hBX,HAT.out.wd,HAT.out.ln,HAT.out.own.on hBX,HAT.out.fresh,HAT.out.fut,AT HAT.out.keep hBX⟩;have HN4:Hid (N<=b4):=AA (by rw[<-hb4];have:=HAT.out.keep.size;have:=HNW.out;omega)
   generalize wo.alloc (.cells #[.string ⟨#[97,108,119,97,121,115]⟩,.func (.func 139) #[] #[]] 118)=W at *;replace HAT:=HAW;have HFR:=AA (HAT.out.fresh.f (Nat.le_refl _));have hl4W:=(Array.getElem?_eq_some_iff.1 hX4).1;have HX4:=AA hX4;have HNS:Hid (N<=W.heap.size):=AA (by have:=HN4.out;omega);have HL4:=AA hl4W;clear hX4 hBX hb4 HAW hx hl4W;go_loopw [5] (fun _ wi=>∃(i:Nat) (M:List Tok) (v:Value) (l:List Clm) (f:Nat),S5 M B g lv i {p with f:=v} wi/\CE M/\M.length=n/\AG (Ko g lv W.heap.size) W wi/\Ir wi W.heap.size v l/\l.length<=i/\fut5 M f i {P with claims:=l}=some r)
    (fun _ wi=>n-(intOf (BM g 1 wi)).toNat)
   case atStart=>exact⟨i,M,p.f,P.claims,F,HAT.out.st,HAT.out.wd,HAT.out.ln,AG.refl _ _,by rw[HFR.out.1,HFR.out.2];exact LJ _ _,by rw[HFR.out.2];exact Nat.zero_le _,HAT.out.fut⟩
   case round=>
    obtain⟨wi,hwi⟩:∃x:World,x=wr:=⟨_,rfl⟩
    subst hwi;obtain⟨i,M,v,l,f,hs,hwd,hln,hki,ho,hll,hf⟩:=hrel;have HSI:=AA hs;have HWD:=AA hwd;have HLM:=AA hln;have HKI:=AA hki;have HOI:=AA ho;have HLL:=AA hll;have HFF:=AA hf;obtain⟨q0,hb0⟩:=hs.blk;obtain⟨hgl,c0,c1, -, -, -, -, -, -, -, -⟩:=hb0.cells;have hme:intOf (BM g 1 wi)=i:=by rw[DZ c1];rfl
    have HME:=AA hme;have HX4I:Hid (wi.heap[b4]?=some (.cells #[.string ⟨#[97,108,119,97,121,115]⟩,.func (.func 139) #[] #[]] 118 (0,0))):=AA (by
     rw[hki.block b4 HL4.out (Fo (N:=N) HGN.out HLN.out (Nat.le_refl _) b4 HN4.out HL4.out)];exact HX4.out)
    have hl4:=(Array.getElem?_eq_some_iff.1 HX4I.out).1;have z0:wi.cell? ⟨b4,0,none⟩=some (.string ⟨#[97,108,119,97,121,115]⟩):=by rw[Lib.cell_of_heap HX4I.out];rfl
    clear hs hwd hln hki ho hll hf hb0 hme;cases hq:isB M i Ak with
    |false=>
     have HQ:=AA hq;go_wp2_with fail
     go_region_held3 (fun w'=>w'.cell? ⟨g,0,none⟩=some lv/\w'.cell? ⟨g,1,none⟩=some (.int .i64 i)/\w'.cell? ⟨b4,0,none⟩=some (.string ⟨#[97,108,119,97,121,115]⟩)/\Below wi.heap.size wi w')
     (first|exact⟨c0,c1,z0,Below.refl _ _⟩|exact⟨c0,c1,z0,AD _⟩|exact⟨(hb1.cell (p:=⟨g,0,none⟩) hgl).trans c0,(hb1.cell (p:=⟨g,1,none⟩) hgl).trans c1,(hb1.cell (p:=⟨b4,0,none⟩) hl4).trans z0,AC (AD _) hb1⟩)
     (first|(go_at_call 77;refine(Re HSI.out (s:=Ak) HQ.out (AD _)).mono ?_;rintro e w2 ⟨rfl,hb1⟩))
     have HB2:=AA (AC (AD wi) hb1);have HNEW:Hid (Xm F 6 B g N n lv r i M {p with f:=v} {P with claims:=l} w w2):=AA (by
      have hk2:=AT HKI.out HB2.out;have h0:=HAT.out.own.keep hk2 (Fo HGN.out HLN.out (Nat.le_refl _));have fr:=HAT.out.fresh;refine⟨HSI.out.on HB2.out,HWD.out,HLM.out,{h0 with claims:=((HOI.out.on HB2.out).base HNS.out)},⟨fun h=>by omega,fun h=>by omega,fun h=>by omega,fun h=>by omega,fun h=>by omega,fun h=>by omega⟩,?_,HAT.out.keep.trans hk2 (fun _ _ h=>h) (fun _ _ h=>Gu HNS.out h)⟩;exact congrArg some (Sr HFF.out hq))
     clear hb1 c0 c1 z0 hgl hl4 hq;go_wp2_with fail
     go_roundw;case rel=>exact⟨6,i,M,_,_,by omega,by go_num,HNEW.out⟩
     case measure=>simp[intOf]
    |true=>
     have HQ:=AA hq;have HIL:=AA (Bl hq);go_wp2_with fail
     go_region_held3 (fun w'=>w'.cell? ⟨g,0,none⟩=some lv/\w'.cell? ⟨g,1,none⟩=some (.int .i64 i)/\w'.cell? ⟨b4,0,none⟩=some (.string ⟨#[97,108,119,97,121,115]⟩)/\Below wi.heap.size wi w')
     (first|exact⟨c0,c1,z0,Below.refl _ _⟩|exact⟨c0,c1,z0,AD _⟩|exact⟨(hb1.cell (p:=⟨g,0,none⟩) hgl).trans c0,(hb1.cell (p:=⟨g,1,none⟩) hgl).trans c1,(hb1.cell (p:=⟨b4,0,none⟩) hl4).trans z0,AC (AD _) hb1⟩)
     (first|(go_at_call 77;refine(Re HSI.out (s:=Ak) HQ.out (AD _)).mono ?_;rintro e w2 ⟨rfl,hb1⟩))
     have HB2:=AA (AC (AD wi) hb1);have HS2:=AA (HSI.out.on HB2.out);have HO2:=AA (HOI.out.on HB2.out);have HX42:Hid (w2.heap[b4]?=some (.cells #[.string ⟨#[97,108,119,97,121,115]⟩,.func (.func 139) #[] #[]] 118 (0,0))):=AA (by rw[HB2.out.block b4 hl4];exact HX4I.out);have y1:w2.cell? ⟨b4,1,none⟩=some (.func (.func 139) #[] #[]):=by rw[Lib.cell_of_heap HX42.out];rfl
     have hl42:=(Array.getElem?_eq_some_iff.1 HX42.out).1;clear hb1 c0 c1 z0 hgl hl4;obtain⟨f',rfl,⟨a,j,h1,h2⟩|⟨e2,q2,h1,h2⟩⟩:=QAj HFF.out hq
     ·have HCT:=AA (QCv HS2.out (by have:=HGN.out;have:=HNS.out;omega) (by have:=HB2.out.size;have:=HKI.out.size;omega) HO2.out (by have:=HLL.out;have:=HIL.out;have:=HLM.out;omega) HIL.out h1);go_wp2_with fail
      refine HCT.out.mono ?_;intro e w3 hp;clear y1 hl42;obtain⟨hkp,he,v2,hs3,ho3⟩:=hp;obtain rfl:=he;have HNEXT:Hid (∃(i:Nat) (M:List Tok) (v:Value) (l:List Clm) (f:Nat),S5 M B g lv i {p with f:=v} w3/\CE M/\M.length=n/\AG (Ko g lv W.heap.size) W w3/\Ir w3 W.heap.size v l/\l.length<=i/\fut5 M f i {P with claims:=l}=some r):=AA ⟨j,M,v2,l++[a],f',hs3,HWD.out,HLM.out,(AT HKI.out HB2.out).trans hkp (fun _ _ h=>h) (fun _ _ h=>h),ho3,by have hll:=HLL.out;exact(by have:=(Iu M F).ahead _ _ hq (congrArg some h1);have:=this.1;rw[List.length_append];simp;omega),h2⟩
      have HMZ:Hid (n-(intOf (BM g 1 w3)).toNat<n-(intOf (BM g 1 wi)).toNat):=AA (by
       obtain⟨q3,hq3⟩:=hs3.blk;rw[DZ hq3.cells.c1,HME.out];have h9:i<j:=((Iu M F).ahead _ _ hq (congrArg some h1)).1;have h8:=HIL.out;have h7:=HLM.out;simp only[intOf,Int.toNat_natCast];omega)
      have hne0:((0:Int) != 0)=false:=by decide
      clear hkp hs3 ho3 h1 h2 hq;go_wp2_with fail
      go_roundw;case rel=>(repeat apply Exists.intro);exact⟨HNEXT.out,rfl⟩
      case measure=>exact HMZ.out
     ·have HCT:=AA (QCv HS2.out (by have:=HGN.out;have:=HNS.out;omega) (by have:=HB2.out.size;have:=HKI.out.size;omega) HO2.out (by have:=HLL.out;have:=HIL.out;have:=HLM.out;omega) HIL.out h1);go_wp2_with fail
      refine HCT.out.mono ?_;intro e w3 hp;clear y1 hl42;obtain⟨hkp,he,hne,i3,p3,hb3⟩:=hp;obtain rfl:=he;have hne2:(e2 != 0)=true:=by simp[hne]
      have HNE:=AA hne;have HB3:=AA hb3;have HRR:Hid (r=.bad e2 q2):=AA h2;have HKF:Hid (AG (Ko g lv N) w w3):=AA (HAT.out.keep.trans ((AT HKI.out HB2.out).trans hkp (fun _ _ h=>h) (fun _ _ h=>h)) (fun _ _ h=>h) (fun _ _ h=>Gu HNS.out h));clear hkp hne hb3 h1 h2 hq;go_wp2_with fail
      go_ret;rw[HRR.out];exact⟨HKF.out,rfl,HNE.out,i3,p3,HB3.out⟩
  ·have HEP:Hid (OY M i P=r):=AA (Option.some.inj HAT.out.fut);cases hend:decide (M.length<=i)with
   |true=>
    have HE:=AA (MV HAT.out.st hend);have HRR:Hid (r=.ok P i):=AA (by rw[<-HEP.out];unfold OY;rw[if_neg (by simp at hend;omega)]);clear hend;go_wp2_with fail
    refine HE.out.mono ?_;rintro e w2 ⟨rfl,hb2⟩;have HB2:=AA hb2;clear hb2;go_wp2_with fail
    go_ret;rw[HRR.out];obtain⟨q,hq⟩:=(HAT.out.st.on HB2.out).blk;exact⟨AT HAT.out.keep HB2.out,rfl,_,q,p,hq,HAT.out.own.on HB2.out⟩
   |false=>
    have HE:=AA (MV HAT.out.st hend);have hil:i<M.length:=by simpa using hend
    have HRR:Hid (r=.bad 5 (AN M i)):=AA (by rw[<-HEP.out];unfold OY badR;rw[if_pos hil,if_pos hil]);have HEQ:Hid ((if i<M.length then(5:Int)else 6)=5):=AA (by rw[if_pos hil]);clear hend hil;go_wp2_with fail
    refine HE.out.mono ?_;rintro e w2 ⟨rfl,hb2⟩;have HB2:=AA hb2;have HS2:=AA (HAT.out.st.on hb2);clear hb2;go_wp2_with fail
    refine(LN HS2.out).mono ?_;rw[HEQ.out];rintro e w3 ⟨rfl,hs3,hb3,hk3⟩;have HB3:=AA hb3;have HK3:=AA hk3;clear hs3 hb3 hk3;go_wp2_with fail
    go_ret;rw[HRR.out];exact⟨Ag (AT HAT.out.keep HB2.out) (CX HK3.out),rfl,by decide,_,p,HB3.out⟩
end
end Go.Proofs.YthfkpalfopdmhaaGreatDoor

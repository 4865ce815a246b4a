/- Texts of the walk, packed. -/
import Derived.Test.YthfkpalfopdmhaaGreatDoorW35
import Derived.Laws.AppendOwnNone
import Derived.Deep.RegionLaw
import Derived.Test.YthfkpalfopdmhaaGreatDoorW00
namespace Go.Proofs.YthfkpalfopdmhaaGreatDoor
open Go.RowKit
def Ko (g:Nat) (lv:Value) (N q:Nat):Prop:=q=g\/lv.ownBlock=some q\/N<=q
def GV {ρ:Type} (g:Nat) (lv:Value) (N:Nat) (r:RS ρ) (ok:ρ->Nat->World->Prop) (w:World) (e:Ending) (w':World):Prop:=
 AG (Ko g lv N) w w'/\match r with
 |.ok a j=>e=.returned (.int .i64 0)/\ok a j w'
 |.bad er q=>e=.returned (.int .i64 er)/\er≠0/\∃(i:Int) (p':Pv),Bf w' g lv i p' q
section
variable {M:List Tok} {B g i N:Nat} {lv:Value} {p:Pv} {w:World}
theorem Yd:(Tryz.prog.info? 23).map (fun i=>(i.zero,i.size,i.bytes))=some (some (.slice none 0 0),1,24):=by kernel_rfl
theorem Ye:(Tryz.prog.info? 41).map (fun i=>(i.zero,i.size,i.bytes))=some (some (.agg #[.string ⟨#[]⟩,.slice none 0 0,.slice none 0 0,.int .i64 0]),4,72):=by kernel_rfl
theorem Yf:(Tryz.prog.info? 50).map (fun i=>(i.zero,i.size,i.bytes))=some (some (.agg #[.slice none 0 0,.int .i64 0]),2,32):=by kernel_rfl
theorem CX {w1:World} (h:AG (fun q=>q=g) w w1):AG (Ko g lv N) w w1:=h.mono (fun _ _ h=>.inl h)
theorem MX {w1 w2:World} {T m n:Nat} {v:Value} {xs:List Value} (hk:AG (Ko g lv N) w w1) (hown:w1.ownsRow N T m v n xs) (hg:w1.grownBy w2 v.ownBlock):AG (Ko g lv N) w w2:=
 hk.trans (AG.grown hg) (fun _ _ h=>h) (fun k _ e=>.inr (.inr (AI hown k e).1))
set_option maxRecDepth 100000 in
set_option maxHeartbeats 8000000 in
theorem QFi (h:S5 M B g lv i p w) (hwd:CE M) (hgN:g<N) (hNw:N<=w.heap.size) {ls:List (List Cel)} (ho:Iq w N p.a ls) (hls:ls.length<=10000) (hi:i<M.length) {F:Nat} {r:RS (List Cel)} (hr:Be true M F (i+1)=some r):
  Calls Tryz.prog 134 #[.pointer (some ⟨g,0,none⟩)] w (GV g lv N r (fun cs j w'=>∃v',S5 M B g lv j {p with a:=v'} w'/\Iq w' N v' (ls++[cs])) w):=by
 obtain⟨i0,hi0,hz0,hz1,hz2⟩:=info_parts Yd;have HZ:=AA (show Tryz.prog.info? 23=some i0/\i0.zero=some (.slice none 0 0)/\i0.size=1/\i0.bytes=24 from⟨hi0,hz0,hz1,hz2⟩);obtain⟨K,hK,hmap⟩:=ho;have HKO:=AA hK;have HMP:=AA hmap;have HKL:Hid (K.length<=10000):=AA (by rw[<-hmap,List.length_map]at hls;exact hls);have HH:=AA h;have HROW:=AA (Q7 (F:=181) (fun a w=>enters_of Tryz.func181 (by kernel_rfl) rfl a w) (fun j w' hs=>QFh hs hwd) h hi hr);have HGN:=AA hgN;have HNW:=AA hNw;clear hi0 hz0 hz1 hz2 hK hmap h hr hi hwd hls hgN hNw;go_enter Tryz.func134,Tryz.ntmps134;go_wp2_with fail
 refine HROW.out.mono ?_;rintro e w2 ⟨v,l,er,rfl,hol,hl1,hk2,hp2⟩;obtain⟨AR,cR,rfl, -, -, -⟩:=hol.reads;have hblk:∃i2 q2,Bf w2 g lv i2 p q2:=by
  cases r with
  |ok a j=>obtain⟨_,_,hs⟩:=hp2;obtain⟨q,hq⟩:=hs.blk;exact⟨_,q,hq⟩
  |bad e2 q=>obtain⟨_,_,i2,hb⟩:=hp2;exact⟨i2,q,hb⟩
 obtain⟨i2,q2,hb2⟩:=hblk;obtain⟨hgl, -, -,c2, -, -, -, -, -, -,fz⟩:=hb2.cells;have f2:=fz 2;have HB2:=AA hb2;have HK2:=AA hk2;have HOL:=AA hol;have HP2:=AA hp2;have HRW:Hid (w2.ownsRow N 23 1 p.a K.length (K.map (·.v))):=AA (AO HKO.out.row hk2 (fun q hq e=>by have:=(AI HKO.out.row q hq).1;have:=HGN.out;omega));clear hb2 hk2 hol hp2 fz
 go_wp2_with (at_builtin;refine wpList_append_own _ rfl (.tmp 15) (.tmp 17) 22 rfl N 23 i0 (.slice none 0 0) 1 24 Tryz.underlying22 HZ.out.1 HZ.out.2.1 HZ.out.2.2.1 HZ.out.2.2.2 rfl (by decide) _ K.length (K.map (·.v)) rfl ?dO ⟨w2.heap.size,0,none⟩ 1 1 [.slice AR l.length cR] (by rfl) (by rfl) ?d1 ?d2 ?d3 ?d4 ?d5 ?_)
 case dO=>exact AO HRW.out (AG.of (P:=fun _=>False) ((Below.refl _ _).alloc (Nat.le_refl _) _)) (fun _ _=>id)
 case d1=>exact cell_one_new _ _ _
 case d2=>intro u hu;simp at hu;subst hu;rfl
 case d3=>have:=HKL.out;unfold maxLen;omega
 case d4=>have:=HKL.out;omega
 case d5=>have:=HNW.out;have:=HK2.out.size;simp;omega
 intro v5 w5 hown5 hgrow5 _;have hrw1:(w2.alloc (.cells #[.slice AR l.length cR] 23)).ownsRow N 23 1 p.a K.length (K.map (·.v)):=AO HRW.out (AG.of (P:=fun _=>False) ((Below.refl _ _).alloc (Nat.le_refl _) _)) (fun _ _=>id);have hka:AG (fun q=>q=g) w (w2.alloc (.cells #[.slice AR l.length cR] 23)):=AT HK2.out ((Below.refl _ _).alloc (Nat.le_refl _) _);have hb2a:Bf (w2.alloc (.cells #[.slice AR l.length cR] 23)) g lv i2 p q2:=HB2.out.on ((Below.refl _ _).alloc (Nat.le_refl _) _);have hng:¬p.a.ownBlock=some g:=fun e=>by have:=(AI hrw1 g e).1;have:=HGN.out;omega
 have hb5:Bf w5 g lv i2 p q2:=Et hb2a (AG.grown hgrow5) hng;have HK5:Hid (AG (Ko g lv N) w w5):=AA (MX (CX hka) hrw1 hgrow5);have HB5:=AA hb5;have HOW:=AA hown5;have HKS:Hid (AG (fun q=>q=g\/p.a.ownBlock=some q) w w5):=AA (hka.trans (AG.grown hgrow5) (fun _ _ h=>.inl h) (fun _ _ h=>.inr h));have HKR:Hid (AG (fun q=>p.a.ownBlock=some q) w2 w5):=AA (Cd ((Below.refl _ _).alloc (Nat.le_refl _) _) (AG.grown hgrow5));obtain⟨A5,n5,c5,rfl⟩:∃A n c,v5=.slice A n c:=by
  obtain⟨A,c,hv,_⟩:=AS hown5;exact⟨A,_,c,hv⟩
 obtain⟨hgl5, -, -,d2, -, -, -, -, -, -,fz5⟩:=hb5.cells;have g2:=fz5 2;clear hrw1 hka hb2a hng hb5 hown5 hgrow5 fz5 c2 f2 hgl;go_wp2_with fail
 go_ret;have hks:AG (fun q=>q=g) w5 (w5.setCell ⟨g,2,none⟩ (.slice A5 n5 c5)):=AG.set;have hbk:Bf (w5.setCell ⟨g,2,none⟩ (.slice A5 n5 c5)) g lv i2 {p with a:=.slice A5 n5 c5} q2:=Af HB5.out;refine⟨Ag HK5.out (CX hks),?_⟩;have h2:=HP2.out;cases r with
 |bad e2 q=>
  obtain⟨rfl,hne,i3,hb3⟩:=h2;refine⟨rfl,hne,i2,{p with a:=.slice A5 n5 c5},?_⟩;have hq:q2=q:=by
   have h3:=HB2.out;unfold Bf at h3 hb3;rw[h3]at hb3;simp at hb3;exact hb3.2
  rw[<-hq];exact hbk
 |ok a j=>
  obtain⟨rfl,rfl,hs⟩:=h2;refine⟨rfl,.slice A5 n5 c5,?_,?_⟩
  ·have hi2:i2=j:=by
    obtain⟨q3,hq3⟩:=hs.blk;have h3:=HB2.out;unfold Bf at h3 hq3;rw[h3]at hq3;simp at hq3;exact hq3.1
   subst hi2;exact(hs.far HKR.out (fun e=>by have:=(AI HRW.out g e).1;have:=HGN.out;omega) (fun q hq e=>by
    obtain⟨_,cs1,h5⟩:=AI HRW.out q e;obtain⟨_,cs2,h6⟩:=AI hs.toks q hq;rw[h5]at h6;simp at h6) (fun q hq e=>by have:=(AI HRW.out q e).1;have:=HGN.out;have:=hs.gB;omega)).put hks hbk hs.il
  ·refine⟨K++[⟨l,.slice AR l.length cR⟩],⟨?_,fun x hx=>?_⟩,by rw[List.map_append,HMP.out];rfl⟩
   ·have h6:w5.ownsRow N 23 1 (.slice A5 n5 c5) (K.length+1) (K.map (·.v)++[.slice AR l.length cR]):=HOW.out;rw[List.length_append,List.map_append];exact AO h6 hks (fun q hq e=>by have:=(AI h6 q hq).1;have:=HGN.out;omega)
   ·rcases List.mem_append.1 hx with hx|hx
    ·refine((HKO.out.sub x hx).keepT HKS.out (fun q cs T hB hh hT=>?_)).keepT hks (fun q cs T hB hh hT e=>?_)
     ·simp at hT;subst hT;rintro(e|e)
      ·have:=HGN.out;omega
      ·obtain⟨_,cs1,h5⟩:=AI HKO.out.row q e;rw[h5]at hh;simp at hh
     ·have:=HGN.out;omega
    ·obtain rfl:x=⟨l,.slice AR l.length cR⟩:=by simpa using hx
     refine((Bw.base HOL.out HNW.out).keepT HKR.out (fun q cs T hB hh hT e=>?_)).keepT hks (fun q cs T hB hh hT e=>?_)
     ·simp at hT;subst hT;obtain⟨_,cs1,h5⟩:=AI HRW.out q e;rw[h5]at hh;simp at hh
     ·have:=HGN.out;omega
set_option maxRecDepth 100000 in
set_option maxHeartbeats 8000000 in
theorem QFj (h:S5 M B g lv i p w) (hwd:CE M) (hgN:g<N) (hNw:N<=w.heap.size) {cs0:List Cel} (ho:Bw w N p.b cs0) (hls:cs0.length<=10000) (hi:i<M.length) {F:Nat} {r:RS (List Cel)} (hr:Be true M F (i+1)=some r):
  Calls Tryz.prog 135 #[.pointer (some ⟨g,0,none⟩)] w (GV g lv N r (fun cs j w'=>∃v',S5 M B g lv j {p with b:=v'} w'/\Bw w' N v' (cs0++cs)) w):=by
 obtain⟨i0,hi0,hz0,hz1,hz2⟩:=info_parts Nr;have HZ:=AA (show Tryz.prog.info? 48=some i0/\i0.zero=some (.agg #[.string ⟨#[]⟩,.int .i64 0,.int .i64 0])/\i0.size=3/\i0.bytes=32 from⟨hi0,hz0,hz1,hz2⟩);have HKO:=AA ho;have HKL:=AA hls;have HH:=AA h;have HROW:=AA (Q7 (F:=181) (fun a w=>enters_of Tryz.func181 (by kernel_rfl) rfl a w) (fun j w' hs=>QFh hs hwd) h hi hr);have HGN:=AA hgN;have HNW:=AA hNw;clear hi0 hz0 hz1 hz2 ho h hr hi hwd hls hgN hNw;go_enter Tryz.func135,Tryz.ntmps135;go_wp2_with fail
 refine HROW.out.mono ?_;rintro e w2 ⟨v,l,er,rfl,hol,hl1,hk2,hp2⟩;have hblk:∃i2 q2,Bf w2 g lv i2 p q2:=by
  cases r with
  |ok a j=>obtain⟨_,_,hs⟩:=hp2;obtain⟨q,hq⟩:=hs.blk;exact⟨_,q,hq⟩
  |bad e2 q=>obtain⟨_,_,i2,hb⟩:=hp2;exact⟨i2,q,hb⟩
 obtain⟨i2,q2,hb2⟩:=hblk;obtain⟨hgl, -, -,k2,k3,k4,k5,k6,k7, -,fz⟩:=hb2.cells;have f2:=fz 3;have HB2:=AA hb2;have HK2:=AA hk2;have HOL:=AA hol;have HP2:=AA hp2;have HRW:Hid (w2.ownsRow N 48 3 p.b cs0.length (cs0.flatMap Am)):=AA (AO HKO.out hk2 (fun q hq e=>by have:=(AI HKO.out q hq).1;have:=HGN.out;omega));have FIN:Hid (∀(v5:Value) (w5:World),w5.ownsRow N 48 3 v5 (cs0.length+l.length) (cs0.flatMap Am++l.flatMap Am)->w2.grownBy w5 p.b.ownBlock->
   GV g lv N r (fun cs j w'=>∃v',S5 M B g lv j {p with b:=v'} w'/\Bw w' N v' (cs0++cs)) w (.returned (.int .i64 er)) (w5.setCell ⟨g,3,none⟩ v5)):=AA (by
  intro v5 w5 hown5 hgrow5;have hng:¬p.b.ownBlock=some g:=fun e=>by have:=(AI HRW.out g e).1;have:=HGN.out;omega
  have hb5:Bf w5 g lv i2 p q2:=Et HB2.out (AG.grown hgrow5) hng;have hks:AG (fun q=>q=g) w5 (w5.setCell ⟨g,3,none⟩ v5):=AG.set;have hbk:Bf (w5.setCell ⟨g,3,none⟩ v5) g lv i2 {p with b:=v5} q2:=Af hb5;refine⟨Ag (MX (CX HK2.out) HRW.out hgrow5) (CX hks),?_⟩;have h2:=HP2.out;cases r with
  |bad e2 q=>
   obtain⟨rfl,hne,i3,hb3⟩:=h2;refine⟨rfl,hne,i2,{p with b:=v5},?_⟩;have hq:q2=q:=by
    have h3:=HB2.out;unfold Bf at h3 hb3;rw[h3]at hb3;simp at hb3;exact hb3.2
   rw[<-hq];exact hbk
  |ok a j=>
   obtain⟨rfl,rfl,hs⟩:=h2;have hi2:i2=j:=by
    obtain⟨q3,hq3⟩:=hs.blk;have h3:=HB2.out;unfold Bf at h3 hq3;rw[h3]at hq3;simp at hq3;exact hq3.1
   subst hi2;refine⟨rfl,v5,(hs.far (AG.grown hgrow5) hng (fun q hq e=>by
    obtain⟨_,cs1,h5⟩:=AI HRW.out q e;obtain⟨_,cs2,h6⟩:=AI hs.toks q hq;rw[h5]at h6;simp at h6) (fun q hq e=>by have:=(AI HRW.out q e).1;have:=HGN.out;have:=hs.gB;omega)).put hks hbk hs.il,?_⟩
   unfold Bw;rw[List.length_append,List.flatMap_append];exact AO hown5 hks (fun q hq e=>by have:=(AI hown5 q hq).1;have:=HGN.out;omega))
 rcases hol.2 with⟨rfl,hl0⟩|⟨gr,cap,cur,rfl,hgr,hhr, -, -, -, -⟩
 ·have hln:l=[]:=List.length_eq_zero_iff.1 hl0;subst hln;obtain⟨Ap,np,cp,hvp⟩:∃A n c,p.b=.slice A n c:=by
   obtain⟨A,c,hv,_⟩:=AS HRW.out;exact⟨A,_,c,hv⟩
  have HVP:=AA hvp;rw[hvp]at k3;clear hb2 hk2 hol hp2 fz hvp hl0;go_wp2_with (at_builtin;refine wpList_append_own_none rfl (.tmp 15) (.tmp 16) 23 rfl N 48 i0 3 Tryz.underlying23 HZ.out.1 (.slice Ap np cp) cs0.length (cs0.flatMap Am) rfl (by rw[<-HVP.out];exact HRW.out) rfl ?_)
  go_ret;have h9:=FIN.out p.b w2 (by simpa using HRW.out) ⟨rfl,rfl,rfl,Nat.le_refl _,fun _ _ _=>rfl⟩;rw[HVP.out]at h9;exact h9
 ·have HAR:Hid (∀j u,(l.flatMap Am)[j]?=some u->w2.cell? ((⟨gr,0,none⟩:Addr).add j)=some u):=AA (World.ownsRow.cells hol rfl);have HLE:=AA (Vg hol);have HL1:=AA hl1;clear hb2 hk2 hol hp2 fz hgr hhr hl1;go_wp2_with (at_builtin;refine wpList_append_own _ rfl (.tmp 15) (.tmp 16) 23 rfl N 48 i0 (.agg #[.string ⟨#[]⟩,.int .i64 0,.int .i64 0]) 3 32 Tryz.underlying23 HZ.out.1 HZ.out.2.1 HZ.out.2.2.1 HZ.out.2.2.2 rfl (by decide) _ cs0.length (cs0.flatMap Am) rfl ?dO ⟨gr,0,none⟩ l.length cap (l.flatMap Am) (by rfl) ?d0 ?d1 ?d2 ?d3 ?d4 ?d5 ?_)
  case dO=>exact HRW.out
  case d0=>exact HLE.out
  case d1=>exact HAR.out
  case d2=>
   intro u hu;obtain⟨c,_,hc⟩:=List.mem_flatMap.1 hu;exact Ns c u hc
  case d3=>have:=HKL.out;have:=HL1.out;unfold maxLen;omega
  case d4=>have:=HKL.out;have:=HL1.out;omega
  case d5=>have:=HNW.out;have:=HK2.out.size;omega
  intro v5 w5 hown5 hgrow5 _;have hng:¬p.b.ownBlock=some g:=fun e=>by have:=(AI HRW.out g e).1;have:=HGN.out;omega
  have hb5:Bf w5 g lv i2 p q2:=Et HB2.out (AG.grown hgrow5) hng;obtain⟨A5,n5,c5,rfl⟩:∃A n c,v5=.slice A n c:=by
   obtain⟨A,c,hv,_⟩:=AS hown5;exact⟨A,_,c,hv⟩
  have HRES:=AA (FIN.out _ w5 hown5 hgrow5);obtain⟨hgl5, -, -,m2,m3,m4,m5,m6,m7, -,fz5⟩:=hb5.cells;have g2:=fz5 3;clear hng hb5 hown5 hgrow5 fz5 k2 k3 k4 k5 k6 k7 f2 hgl;go_wp2_with fail
  go_ret;exact HRES.out
set_option maxRecDepth 100000 in
set_option maxHeartbeats 8000000 in
theorem QCr (h:S5 M B g lv i p w) (hwd:CE M) (hgN:g<N) (hNw:N<=w.heap.size) {cs0:List Cel} (ho:Bw w N p.c cs0) (hls:cs0.length<=10000) (hi:i<M.length) {F:Nat} {r:RS (List Cel)} (hr:Be false M F (i+1)=some r):
  Calls Tryz.prog 136 #[.pointer (some ⟨g,0,none⟩)] w (GV g lv N r (fun cs j w'=>∃v',S5 M B g lv j {p with c:=v'} w'/\Bw w' N v' (cs0++cs)) w):=by
 obtain⟨i0,hi0,hz0,hz1,hz2⟩:=info_parts Nr;have HZ:=AA (show Tryz.prog.info? 48=some i0/\i0.zero=some (.agg #[.string ⟨#[]⟩,.int .i64 0,.int .i64 0])/\i0.size=3/\i0.bytes=32 from⟨hi0,hz0,hz1,hz2⟩);have HKO:=AA ho;have HKL:=AA hls;have HH:=AA h;have HROW:=AA (Q7 (F:=182) (fun a w=>enters_of Tryz.func182 (by kernel_rfl) rfl a w) (fun j w' hs=>QFg hs hwd) h hi hr);have HGN:=AA hgN;have HNW:=AA hNw;clear hi0 hz0 hz1 hz2 ho h hr hi hwd hls hgN hNw;go_enter Tryz.func136,Tryz.ntmps136;go_wp2_with fail
 refine HROW.out.mono ?_;rintro e w2 ⟨v,l,er,rfl,hol,hl1,hk2,hp2⟩;have hblk:∃i2 q2,Bf w2 g lv i2 p q2:=by
  cases r with
  |ok a j=>obtain⟨_,_,hs⟩:=hp2;obtain⟨q,hq⟩:=hs.blk;exact⟨_,q,hq⟩
  |bad e2 q=>obtain⟨_,_,i2,hb⟩:=hp2;exact⟨i2,q,hb⟩
 obtain⟨i2,q2,hb2⟩:=hblk;obtain⟨hgl, -, -,k2,k3,k4,k5,k6,k7, -,fz⟩:=hb2.cells;have f2:=fz 4;have HB2:=AA hb2;have HK2:=AA hk2;have HOL:=AA hol;have HP2:=AA hp2;have HRW:Hid (w2.ownsRow N 48 3 p.c cs0.length (cs0.flatMap Am)):=AA (AO HKO.out hk2 (fun q hq e=>by have:=(AI HKO.out q hq).1;have:=HGN.out;omega));have FIN:Hid (∀(v5:Value) (w5:World),w5.ownsRow N 48 3 v5 (cs0.length+l.length) (cs0.flatMap Am++l.flatMap Am)->w2.grownBy w5 p.c.ownBlock->
   GV g lv N r (fun cs j w'=>∃v',S5 M B g lv j {p with c:=v'} w'/\Bw w' N v' (cs0++cs)) w (.returned (.int .i64 er)) (w5.setCell ⟨g,4,none⟩ v5)):=AA (by
  intro v5 w5 hown5 hgrow5;have hng:¬p.c.ownBlock=some g:=fun e=>by have:=(AI HRW.out g e).1;have:=HGN.out;omega
  have hb5:Bf w5 g lv i2 p q2:=Et HB2.out (AG.grown hgrow5) hng;have hks:AG (fun q=>q=g) w5 (w5.setCell ⟨g,4,none⟩ v5):=AG.set;have hbk:Bf (w5.setCell ⟨g,4,none⟩ v5) g lv i2 {p with c:=v5} q2:=Af hb5;refine⟨Ag (MX (CX HK2.out) HRW.out hgrow5) (CX hks),?_⟩;have h2:=HP2.out;cases r with
  |bad e2 q=>
   obtain⟨rfl,hne,i3,hb3⟩:=h2;refine⟨rfl,hne,i2,{p with c:=v5},?_⟩;have hq:q2=q:=by
    have h3:=HB2.out;unfold Bf at h3 hb3;rw[h3]at hb3;simp at hb3;exact hb3.2
   rw[<-hq];exact hbk
  |ok a j=>
   obtain⟨rfl,rfl,hs⟩:=h2;have hi2:i2=j:=by
    obtain⟨q3,hq3⟩:=hs.blk;have h3:=HB2.out;unfold Bf at h3 hq3;rw[h3]at hq3;simp at hq3;exact hq3.1
   subst hi2;refine⟨rfl,v5,(hs.far (AG.grown hgrow5) hng (fun q hq e=>by
    obtain⟨_,cs1,h5⟩:=AI HRW.out q e;obtain⟨_,cs2,h6⟩:=AI hs.toks q hq;rw[h5]at h6;simp at h6) (fun q hq e=>by have:=(AI HRW.out q e).1;have:=HGN.out;have:=hs.gB;omega)).put hks hbk hs.il,?_⟩
   unfold Bw;rw[List.length_append,List.flatMap_append];exact AO hown5 hks (fun q hq e=>by have:=(AI hown5 q hq).1;have:=HGN.out;omega))
 rcases hol.2 with⟨rfl,hl0⟩|⟨gr,cap,cur,rfl,hgr,hhr, -, -, -, -⟩
 ·have hln:l=[]:=List.length_eq_zero_iff.1 hl0;subst hln;obtain⟨Ap,np,cp,hvp⟩:∃A n c,p.c=.slice A n c:=by
   obtain⟨A,c,hv,_⟩:=AS HRW.out;exact⟨A,_,c,hv⟩
  have HVP:=AA hvp;rw[hvp]at k4;clear hb2 hk2 hol hp2 fz hvp hl0;go_wp2_with (at_builtin;refine wpList_append_own_none rfl (.tmp 15) (.tmp 16) 23 rfl N 48 i0 3 Tryz.underlying23 HZ.out.1 (.slice Ap np cp) cs0.length (cs0.flatMap Am) rfl (by rw[<-HVP.out];exact HRW.out) rfl ?_)
  go_ret;have h9:=FIN.out p.c w2 (by simpa using HRW.out) ⟨rfl,rfl,rfl,Nat.le_refl _,fun _ _ _=>rfl⟩;rw[HVP.out]at h9;exact h9
 ·have HAR:Hid (∀j u,(l.flatMap Am)[j]?=some u->w2.cell? ((⟨gr,0,none⟩:Addr).add j)=some u):=AA (World.ownsRow.cells hol rfl);have HLE:=AA (Vg hol);have HL1:=AA hl1;clear hb2 hk2 hol hp2 fz hgr hhr hl1;go_wp2_with (at_builtin;refine wpList_append_own _ rfl (.tmp 15) (.tmp 16) 23 rfl N 48 i0 (.agg #[.string ⟨#[]⟩,.int .i64 0,.int .i64 0]) 3 32 Tryz.underlying23 HZ.out.1 HZ.out.2.1 HZ.out.2.2.1 HZ.out.2.2.2 rfl (by decide) _ cs0.length (cs0.flatMap Am) rfl ?dO ⟨gr,0,none⟩ l.length cap (l.flatMap Am) (by rfl) ?d0 ?d1 ?d2 ?d3 ?d4 ?d5 ?_)
  case dO=>exact HRW.out
  case d0=>exact HLE.out
  case d1=>exact HAR.out
  case d2=>
   intro u hu;obtain⟨c,_,hc⟩:=List.mem_flatMap.1 hu;exact Ns c u hc
  case d3=>have:=HKL.out;have:=HL1.out;unfold maxLen;omega
  case d4=>have:=HKL.out;have:=HL1.out;omega
  case d5=>have:=HNW.out;have:=HK2.out.size;omega
  intro v5 w5 hown5 hgrow5 _;have hng:¬p.c.ownBlock=some g:=fun e=>by have:=(AI HRW.out g e).1;have:=HGN.out;omega
  have hb5:Bf w5 g lv i2 p q2:=Et HB2.out (AG.grown hgrow5) hng;obtain⟨A5,n5,c5,rfl⟩:∃A n c,v5=.slice A n c:=by
   obtain⟨A,c,hv,_⟩:=AS hown5;exact⟨A,_,c,hv⟩
  have HRES:=AA (FIN.out _ w5 hown5 hgrow5);obtain⟨hgl5, -, -,m2,m3,m4,m5,m6,m7, -,fz5⟩:=hb5.cells;have g2:=fz5 4;clear hng hb5 hown5 hgrow5 fz5 k2 k3 k4 k5 k6 k7 f2 hgl;go_wp2_with fail
  go_ret;exact HRES.out
end
end Go.Proofs.YthfkpalfopdmhaaGreatDoor
namespace Go.Proofs.YthfkpalfopdmhaaGreatDoor
open Go.RowKit
section
variable {M:List Tok} {B g i N:Nat} {lv:Value} {p:Pv} {w:World}
theorem PW {T m n:Nat} {v:Value} {xs:List Value} {o:Obj} (h:w.ownsRow N T m v n xs):(w.drew.alloc o).ownsRow N T m v n xs:=AO (P:=fun _=>False) h (AG.of ((AD w).alloc (Nat.le_refl _) o)) (fun _ _ h=>h)
theorem UX {s:ByteArray} {A A':Option Addr} {n c n' c':Nat} {pl:Int}:∀u∈[Value.string s,.slice A n c,.slice A' n' c',.int .i64 pl],u.oneCell'=true:=by
 intro u hu;simp at hu;rcases hu with rfl|rfl|rfl|rfl<;>rfl
theorem Ci.keepR {P:Nat->Prop} {w':World} {v:Value} {K:List Tv} (h:Ci w N v K) (hk:AG P w w') (hr:∀q,v.ownBlock=some q->¬P q) (ha:Av P w N [9,44,46]):Ci w' N v K:=
 ⟨AO h.row hk hr,fun x hx=>⟨(h.sub x hx).1.keepT hk (ha.sub (by simp)),(h.sub x hx).2.keepT hk (ha.sub (by simp))⟩⟩
theorem Q9.any {X:World} {b:Nat} {name:List UInt8} {pl:Int} {r:RS Thr} {e:Ending} (h:Q9 M B g b lv p name pl r w e X):∃(er:Int) (i2 q2:Int) (s:ByteArray) (AR:Option Addr) (nR cR:Nat) (AB:Option Addr) (nB cB:Nat) (pl':Int),e=.returned (.int .i64 er)/\Bf X g lv i2 p q2/\X.heap[b]?=some (.cells #[.string s,.slice AR nR cR,.slice AB nB cB,.int .i64 pl'] 41 (0,0)):=by
 obtain⟨_,h2⟩:=h;cases r with
 |ok t m=>
  obtain⟨rfl,M',vR,vB,_,_,hs,hb,hR,hB⟩:=h2;obtain⟨AR,cR,rfl,_⟩:=hR.reads;obtain⟨AB,cB,rfl⟩:=hB.slice;obtain⟨q,hq⟩:=hs.blk;exact⟨0,_,q,_,_,_,_,_,_,_,_,rfl,hq,hb⟩
 |bad er q=>
  obtain⟨rfl,_,⟨i2,hb⟩,A,n,c,hx⟩:=h2;exact⟨er,i2,q,_,_,_,_,_,_,_,_,rfl,hb,hx⟩
theorem QCs {X w5:World} {i2 q2:Int} {K:List Tv} {s:ByteArray} {vR vB v5:Value} {pl:Int} {o:Obj} (hX:AG (Ko g lv N) w X) (hb:Bf X g lv i2 p q2) (hgN:g<N) (hK:Ci X N p.d K)
  (hgrow:(X.drew.alloc o).grownBy w5 p.d.ownBlock) (hown:w5.ownsRow N 41 4 v5 (K.length+1) (K.flatMap DI++[.string s,vR,vB,.int .i64 pl])):
  AG (Ko g lv N) w (w5.setCell ⟨g,5,none⟩ v5)/\Bf (w5.setCell ⟨g,5,none⟩ v5) g lv i2 {p with d:=v5} q2/\(∀M' m,S5 M' B g lv m p X->S5 M' B g lv m {p with d:=v5} (w5.setCell ⟨g,5,none⟩ v5))/\
   (∀t:Thr,s=⟨t.name.toArray⟩->pl=t.pl->CS X N vR t.regs->Ec X N vB t.body->EV (w5.setCell ⟨g,5,none⟩ v5) N v5 (K.map (·.t)++[t])):=by
 have hB1:Below X.heap.size X (X.drew.alloc o):=(AD X).alloc (Nat.le_refl _) o;have hk1:AG (fun q=>p.d.ownBlock=some q) X w5:=Cd hB1 (AG.grown hgrow);have hng:¬p.d.ownBlock=some g:=fun e=>by have:=(AI hK.row g e).1;omega
 have hks:AG (fun q=>q=g) w5 (w5.setCell ⟨g,5,none⟩ v5):=AG.set;have hb5:Bf w5 g lv i2 p q2:=Et hb hk1 hng;have hbk:Bf (w5.setCell ⟨g,5,none⟩ v5) g lv i2 {p with d:=v5} q2:=Af hb5;have hty:∀q,p.d.ownBlock=some q->N<=q/\∃cs,X.heap[q]?=some (.cells cs 41 (0,0)):=AI hK.row;have hkk:AG (fun q=>q=g\/p.d.ownBlock=some q) X (w5.setCell ⟨g,5,none⟩ v5):=hk1.trans hks (fun _ _ h=>.inr h) (fun _ _ h=>.inl h);have hav:∀Ts:List TypeId,58∉Ts->41∉Ts->Av (fun q=>q=g\/p.d.ownBlock=some q) X N Ts:=fun Ts h1 h2 q cs T hB hh hT=>by
  rintro(e|e)
  ·omega
  ·obtain⟨_,cs1,h5⟩:=hty q e;rw[h5]at hh;simp only[Option.some.injEq,Obj.cells.injEq]at hh;exact h2 (hh.2.1▸hT)
 refine⟨Ag (hX.trans hk1 (fun _ _ h=>h) (fun k _ e=>.inr (.inr (hty k e).1))) (CX hks),hbk,fun M' m hs=>?_,fun t hs hp hr hbd=>?_⟩
 ·have hi2:i2=m:=by
   obtain⟨q3,hq3⟩:=hs.blk;unfold Bf at hb hq3;rw[hb]at hq3;simp at hq3;exact hq3.1
  subst hi2;exact(hs.far hk1 hng (fun q hq e=>by
   obtain⟨_,cs1,h5⟩:=hty q e;obtain⟨_,cs2,h6⟩:=AI hs.toks q hq;rw[h5]at h6;simp at h6) (fun q hq e=>by have:=(hty q e).1;have:=hs.gB;omega)).put hks hbk hs.il
 ·subst hs hp;refine⟨K++[⟨t,vR,vB⟩],⟨?_,fun x hx=>?_⟩,by rw[List.map_append];rfl⟩
  ·rw[List.length_append,List.flatMap_append];have h6:w5.ownsRow N 41 4 v5 (K.length+1) (K.flatMap DI++[⟨t,vR,vB⟩].flatMap DI):=hown;exact AO h6 hks (fun q hq e=>by have:=(AI h6 q hq).1;omega)
  ·rcases List.mem_append.1 hx with hx|hx
   ·exact⟨(hK.sub x hx).1.keepT hkk (hav _ (by decide) (by decide)),(hK.sub x hx).2.keepT hkk (hav _ (by decide) (by decide))⟩
   ·obtain rfl:x=⟨t,vR,vB⟩:=by simpa using hx
    exact⟨hr.keepT hkk (hav _ (by decide) (by decide)),hbd.keepT hkk (hav _ (by decide) (by decide))⟩
theorem QCt {X w5:World} {i2 q2:Int} {K:List Tv} {s:ByteArray} {vR vB v5:Value} {pl:Int} {o:Obj} (hX:AG (Ko g lv N) w X) (hb:Bf X g lv i2 p q2) (hgN:g<N) (hK:Ci X N p.e K)
  (hgrow:(X.drew.alloc o).grownBy w5 p.e.ownBlock) (hown:w5.ownsRow N 41 4 v5 (K.length+1) (K.flatMap DI++[.string s,vR,vB,.int .i64 pl])):
  AG (Ko g lv N) w (w5.setCell ⟨g,6,none⟩ v5)/\Bf (w5.setCell ⟨g,6,none⟩ v5) g lv i2 {p with e:=v5} q2/\(∀M' m,S5 M' B g lv m p X->S5 M' B g lv m {p with e:=v5} (w5.setCell ⟨g,6,none⟩ v5))/\
   (∀t:Thr,s=⟨t.name.toArray⟩->pl=t.pl->CS X N vR t.regs->Ec X N vB t.body->EV (w5.setCell ⟨g,6,none⟩ v5) N v5 (K.map (·.t)++[t])):=by
 have hB1:Below X.heap.size X (X.drew.alloc o):=(AD X).alloc (Nat.le_refl _) o;have hk1:AG (fun q=>p.e.ownBlock=some q) X w5:=Cd hB1 (AG.grown hgrow);have hng:¬p.e.ownBlock=some g:=fun e=>by have:=(AI hK.row g e).1;omega
 have hks:AG (fun q=>q=g) w5 (w5.setCell ⟨g,6,none⟩ v5):=AG.set;have hb5:Bf w5 g lv i2 p q2:=Et hb hk1 hng;have hbk:Bf (w5.setCell ⟨g,6,none⟩ v5) g lv i2 {p with e:=v5} q2:=Af hb5;have hty:∀q,p.e.ownBlock=some q->N<=q/\∃cs,X.heap[q]?=some (.cells cs 41 (0,0)):=AI hK.row;have hkk:AG (fun q=>q=g\/p.e.ownBlock=some q) X (w5.setCell ⟨g,6,none⟩ v5):=hk1.trans hks (fun _ _ h=>.inr h) (fun _ _ h=>.inl h);have hav:∀Ts:List TypeId,58∉Ts->41∉Ts->Av (fun q=>q=g\/p.e.ownBlock=some q) X N Ts:=fun Ts h1 h2 q cs T hB hh hT=>by
  rintro(e|e)
  ·omega
  ·obtain⟨_,cs1,h5⟩:=hty q e;rw[h5]at hh;simp only[Option.some.injEq,Obj.cells.injEq]at hh;exact h2 (hh.2.1▸hT)
 refine⟨Ag (hX.trans hk1 (fun _ _ h=>h) (fun k _ e=>.inr (.inr (hty k e).1))) (CX hks),hbk,fun M' m hs=>?_,fun t hs hp hr hbd=>?_⟩
 ·have hi2:i2=m:=by
   obtain⟨q3,hq3⟩:=hs.blk;unfold Bf at hb hq3;rw[hb]at hq3;simp at hq3;exact hq3.1
  subst hi2;exact(hs.far hk1 hng (fun q hq e=>by
   obtain⟨_,cs1,h5⟩:=hty q e;obtain⟨_,cs2,h6⟩:=AI hs.toks q hq;rw[h5]at h6;simp at h6) (fun q hq e=>by have:=(hty q e).1;have:=hs.gB;omega)).put hks hbk hs.il
 ·subst hs hp;refine⟨K++[⟨t,vR,vB⟩],⟨?_,fun x hx=>?_⟩,by rw[List.map_append];rfl⟩
  ·rw[List.length_append,List.flatMap_append];have h6:w5.ownsRow N 41 4 v5 (K.length+1) (K.flatMap DI++[⟨t,vR,vB⟩].flatMap DI):=hown;exact AO h6 hks (fun q hq e=>by have:=(AI h6 q hq).1;omega)
  ·rcases List.mem_append.1 hx with hx|hx
   ·exact⟨(hK.sub x hx).1.keepT hkk (hav _ (by decide) (by decide)),(hK.sub x hx).2.keepT hkk (hav _ (by decide) (by decide))⟩
   ·obtain rfl:x=⟨t,vR,vB⟩:=by simpa using hx
    exact⟨hr.keepT hkk (hav _ (by decide) (by decide)),hbd.keepT hkk (hav _ (by decide) (by decide))⟩
set_option maxRecDepth 100000 in
set_option maxHeartbeats 16000000 in
theorem Yg (h:S5 M B g lv i p w) (hwd:CE M) (hgN:g<N) (hlN:∀q,lv.ownBlock=some q->q<N) (hNw:N<=w.heap.size) {ts:List Thr} (ho:EV w N p.d ts) (hls:ts.length<=10000) (hi:i<M.length) {F:Nat} {r:RS Thr} (hr:Dz M F i=some r):
  Calls Tryz.prog 137 #[.pointer (some ⟨g,0,none⟩)] w (GV g lv N r (fun t j w'=>∃v' M',EW M M' j/\CE M'/\S5 M' B g lv j {p with d:=v'} w'/\EV w' N v' (ts++[t])) w):=by
 obtain⟨i0,hi0,hz0,hz1,hz2⟩:=info_parts Ye;have HZ:=AA (show Tryz.prog.info? 41=some i0/\i0.zero=some (.agg #[.string ⟨#[]⟩,.slice none 0 0,.slice none 0 0,.int .i64 0])/\i0.size=4/\i0.bytes=72 from⟨hi0,hz0,hz1,hz2⟩);obtain⟨K,hK,hmap⟩:=ho;have HKO:=AA hK;have HMP:=AA hmap;have HKL:Hid (K.length<=10000):=AA (by rw[<-hmap,List.length_map]at hls;exact hls);have HH:=AA h;have HW:=AA hwd;have HGN:=AA hgN;have HLN:=AA hlN;have HNW:=AA hNw;have HR:=AA hr;obtain⟨q0,hb0⟩:=h.blk;obtain⟨hgl, -,c1, -, -, -, -, -, -, -,fz⟩:=hb0.cells;have f1:=fz 1;have hlen:=h.len
 have hw1:IntKind.i64.wrap ((i:Int)+1)=(i:Int)+1:=IntWalk.i64_in _ (by omega);have HI:=AA hi;clear hi0 hz0 hz1 hz2 hK hmap h hwd hls hgN hlN hNw hr hb0 fz hi;go_enter Tryz.func137,Tryz.ntmps137;go_wp2_with fail
 have HS1:Hid (S5 M B g lv (i+1) p (w.setCell ⟨g,1,none⟩ (.int .i64 ((i:Int)+1)))):=AA (HH.out.set1 (by have:=HI.out;omega));have HK1:Hid (AG (fun q=>q=g) w (w.setCell ⟨g,1,none⟩ (.int .i64 ((i:Int)+1)))):=AA AG.set;generalize w.setCell ⟨g,1,none⟩ (.int .i64 ((i:Int)+1))=w1 at *;clear c1 f1 hw1 hgl;have HPL:=AA (Q1 HS1.out);obtain⟨pl,hpl⟩:∃pl,AN M ((i+1:Nat):Int)=pl:=⟨_,rfl⟩
 rw[hpl]at HPL;have HPE:=AA hpl;clear hpl;refine HPL.out.mono ?_;rintro e w2 ⟨rfl,hb2⟩;have HS2:=AA (HS1.out.on hb2);have HK2:=AA (AT HK1.out hb2);clear hb2;go_wp2_with fail
 obtain⟨b,hbz⟩:∃b,w2.heap.size=b:=⟨_,rfl⟩
 have hX1:=heap_alloc_new w2 (.cells #[.string ⟨#[]⟩,.slice none 0 0,.slice none 0 0,.int .i64 pl] 41);have hBX:Below w2.heap.size w2 (w2.alloc (.cells #[.string ⟨#[]⟩,.slice none 0 0,.slice none 0 0,.int .i64 pl] 41)):=(Below.refl _ _).alloc (Nat.le_refl _) _;generalize w2.alloc (.cells #[.string ⟨#[]⟩,.slice none 0 0,.slice none 0 0,.int .i64 pl] 41)=w3 at *;rw[hbz]at hX1⊢;have HBW:Hid (w.heap.size<=b):=AA (by have:=HK2.out.size;omega);have HX1:Hid (IJ w3 b [] (.slice none 0 0) (.slice none 0 0) pl):=AA hX1;have HS3:=AA (HS2.out.on hBX);have HK3:=AA (AT HK2.out hBX)
 have HB8:Hid (8<b):=AA (by have:=HS2.out.tabs.lt2;omega);have hbl3:=(Array.getElem?_eq_some_iff.1 hX1).1;clear hX1 hBX hbz;refine(name5 HS3.out HW.out).mono ?_;intro e w4 hp;obtain⟨hk4,hp⟩:=hp;have HAP:=AA (Og HS3.out HX1.out HB8.out);have HX4:=AA (Cj HX1.out hk4 HAP.out.bg);have HK4:=AA (Ag HK3.out hk4);unfold Dz at HR;cases hn:Bd M (i+1)with
 |bad er q=>
  rw[hn]at hp;obtain⟨rfl,hne,i4,hb4⟩:=hp;have hne2:(er != 0)=true:=by simp[hne]
  have HNE:=AA hne;have HB4:=AA hb4;have HRR:Hid (r=.bad er q):=AA (by have h1:=HR.out;rw[hn]at h1;simpa using h1.symm);clear hn hk4 hne hb4;go_wp2_with fail
  go_ret;rw[HRR.out];exact⟨CX HK4.out,rfl,HNE.out,i4,p,HB4.out⟩
 |ok nm j=>
  rw[hn]at hp;obtain⟨rfl,hs4⟩:=hp;have hne0:((0:Int) != 0)=false:=by decide
  have HR1:Hid (Kp M F j nm pl=some r):=AA (by have h1:=HR.out;rw[hn]at h1;rw[<-HPE.out];simpa using h1);have xb0:w4.cell? ⟨b,0,none⟩=some (.string ⟨#[]⟩):=by rw[Lib.cell_of_heap (show w4.heap[b]?=_ from HX4.out)];rfl
  have fb0:w4.frozen? ⟨b,0,none⟩=false:=Lib.frozen_of_heap (show w4.heap[b]?=_ from HX4.out) 0;have hkb:AG (fun q=>q=b) w4 (w4.setCell ⟨b,0,none⟩ (.string ⟨nm.toArray⟩)):=AG.set;have HX5:Hid (IJ (w4.setCell ⟨b,0,none⟩ (.string ⟨nm.toArray⟩)) b nm (.slice none 0 0) (.slice none 0 0) pl):=AA (Af (show w4.heap[b]?=_ from HX4.out));have HS5:=AA (hs4.offb (Og hs4 HX4.out HB8.out) hkb);have HK5:=AA (Fg HK4.out hkb HBW.out);clear hn hk4 hs4 hkb;go_wp2_with fail
  generalize w4.setCell ⟨b,0,none⟩ (.string ⟨nm.toArray⟩)=w5 at *;refine(QCq HS5.out HW.out HX5.out HB8.out HR1.out).mono ?_;intro e X hp;have HWN:Hid (N<=w5.heap.size):=AA (by have:=HNW.out;have:=HK5.out.size;omega);have HPX:=AA hp;have HTX:Hid (AG (Ko g lv N) w X):=AA ((CX HK5.out).trans hp.1 (fun _ _ h=>h) (fun k hk e=>e.elim .inl (fun e=>e.elim (fun e=>by have:=HBW.out;omega) (fun e=>.inr (.inl e)))));obtain⟨er,i2,q2,s,AR,nR,cR,AB,nB,cB,pl',rfl,hbx2,hxb2⟩:=hp.any;have HBX:=AA hbx2;have HXB:=AA hxb2;obtain⟨hgX, -, -, -, -, -,k5,k6, -, -,fzX⟩:=hbx2.cells;have c5:=k5;have f5:=fzX 5
  have z0:X.cell? ⟨b,0,none⟩=some (.string s):=by rw[Lib.cell_of_heap hxb2];rfl
  have z1:X.cell? ⟨b,1,none⟩=some (.slice AR nR cR):=by rw[Lib.cell_of_heap hxb2];rfl
  have z2:X.cell? ⟨b,2,none⟩=some (.slice AB nB cB):=by rw[Lib.cell_of_heap hxb2];rfl
  have z3:X.cell? ⟨b,3,none⟩=some (.int .i64 pl'):=by rw[Lib.cell_of_heap hxb2];rfl
  have HKX:Hid (Ci X N p.d K):=AA ((HKO.out.keepT HK5.out (fun q cs T hB hh hT e=>by have:=HGN.out;omega)).keepR hp.1 (fun q hq e=>by
   have hqw:q<w.heap.size:=(Array.getElem?_eq_some_iff.1 (AI HKO.out.row q hq).2.choose_spec).1;have hqN:=(AI HKO.out.row q hq).1;rcases e with e|e|e
   ·have:=HGN.out;omega
   ·have:=HBW.out;omega
   ·have:=HLN.out q e;omega) (fun q cs T hB hh hT e=>by
   rcases e with e|e|e
   ·have:=HGN.out;omega
   ·rw[e,show w5.heap[b]?=_ from HX5.out]at hh;simp only[Option.some.injEq,Obj.cells.injEq]at hh;rw[<-hh.2.1]at hT;simp at hT
   ·have:=HLN.out q e;omega))
  have HNO:Hid (∀q,p.d.ownBlock=some q->q≠g):=AA (fun q hq e=>by have:=(AI HKX.out.row q hq).1;have:=HGN.out;omega);have HNX:Hid (N<=X.heap.size):=AA (by have:=HNW.out;have:=HTX.out.size;omega);clear hp hbx2 hxb2 fzX k5 k6;go_wp2_with fail
  go_region_law (refine step_append_lies _ rfl (.tmp 33) (.tmp 35) 24 rfl N 41 i0 (.agg #[.string ⟨#[]⟩,.slice none 0 0,.slice none 0 0,.int .i64 0]) 4 72 Tryz.underlying24 HZ.out.1 HZ.out.2.1 HZ.out.2.2.1 HZ.out.2.2.2 rfl (by decide) p.d K.length (K.flatMap DI) (by rfl) (PW HKX.out.row) ⟨X.heap.size,0,none⟩ 1 1 [.string s,.slice AR nR cR,.slice AB nB cB,.int .i64 pl'] (by rfl) (by rfl) (World.news_of_block (cs:=#[.string s,.slice AR nR cR,.slice AB nB cB,.int .i64 pl']) (Qh X _)) UX (by decide) (by have:=HKL.out;unfold maxLen;omega) (by have:=HKL.out;omega) (Jc HNX.out) (X.heap.size+1) (by simp) ?_;intro g5 cap w5 hown5 hgrow5 hat5 hlt5;obtain⟨d5,e5⟩:=cell_grown hgrow5 HNO.out hgX c5 f5;have hg5:g<w5.heap.size:=Nat.lt_of_lt_of_le hgX (Nat.le_trans (by simp) hgrow5.size))
  all_goals
   have HFIN:=AA (QCs (B:=B) HTX.out HBX.out HGN.out HKX.out hgrow5 hown5);clear hown5 hgrow5 hat5;go_wp2_with fail
   go_ret;obtain⟨f1,f2,f3,f4⟩:=HFIN.out;refine⟨f1,?_⟩;have h2:=HPX.out.2;cases r with
   |bad e2 q=>
    obtain⟨he,hne,⟨i3,hb3⟩,A,n,c,hx⟩:=h2;simp only[Ending.returned.injEq,Value.int.injEq,true_and]at he;subst he;have hq:q2=q:=by
     have h3:=HBX.out;unfold Bf at h3 hb3;rw[h3]at hb3;simp at hb3;exact hb3.2
    subst hq;exact⟨rfl,hne,i2,_,f2⟩
   |ok t m=>
    obtain⟨he,M',vR,vB,hag,hwd',hs',hb',hR',hB'⟩:=h2;simp only[Ending.returned.injEq,Value.int.injEq,true_and]at he;subst he;have hbx:=HXB.out;unfold IJ at hb';rw[hb']at hbx;simp only[Option.some.injEq,Obj.cells.injEq,and_true,Array.mk.injEq,List.cons.injEq,Value.string.injEq,Value.int.injEq,true_and]at hbx;obtain⟨hq1,rfl,rfl,hq4⟩:=hbx;refine⟨rfl,_,M',hag,hwd',f3 M' m hs',?_⟩;have h9:=f4 t hq1.symm hq4.symm (hR'.base HWN.out) (hB'.base HWN.out);rw[HMP.out]at h9;exact h9
end
end Go.Proofs.YthfkpalfopdmhaaGreatDoor
namespace Go.Proofs.YthfkpalfopdmhaaGreatDoor
open Go.RowKit
section
variable {M:List Tok} {B g i N:Nat} {lv:Value} {p:Pv} {w:World}
set_option maxRecDepth 100000 in
set_option maxHeartbeats 4000000 in
theorem UY (h:S5 M B g lv i p w) {rs:List Thr} (ho:EV w N p.e rs) (hrs:rs≠[]) (hi:i<M.length):Calls Tryz.prog 138 #[.pointer (some ⟨g,0,none⟩)] w (GV g lv N (badR M i 5:RS Thr) (fun _ _ _=>False) w):=by
 have HW5:=AA (LN h);have HE:Hid ((if i<M.length then(5:Int)else 6)=5):=AA (by rw[if_pos hi]);have HBR:Hid ((badR M i 5:RS Thr)=.bad 5 (AN M i)):=AA (by unfold badR;rw[if_pos hi]);obtain⟨K,hK,hmap⟩:=ho;obtain⟨A,c,hv, -, -, -⟩:=AS hK.row;have hkl:(0:Int)<(K.length:Int):=by
  cases K with
  |nil=>exact absurd hmap.symm (by simpa using hrs)
  |cons a l=>simp
 obtain⟨q0,hb0⟩:=h.blk;obtain⟨hgl, -, -, -, -, -, -,c6, -, -, -⟩:=hb0.cells;rw[hv]at c6;clear hi hK hmap hv h hb0 hrs;go_enter Tryz.func138,Tryz.ntmps138;go_wp2_with fail
 refine HW5.out.mono ?_;rw[HE.out];rintro e w1 ⟨rfl,hs1,hb1,hk1⟩;have HB1:=AA hb1;have HK1:=AA hk1;clear hs1 hb1 hk1;go_wp2_with fail
 go_ret;rw[HBR.out];exact⟨CX HK1.out,rfl,by decide,i,p,HB1.out⟩
set_option maxRecDepth 100000 in
set_option maxHeartbeats 16000000 in
theorem QCu (h:S5 M B g lv i p w) (hwd:CE M) (hgN:g<N) (hlN:∀q,lv.ownBlock=some q->q<N) (hNw:N<=w.heap.size) (ho:EV w N p.e []) (hi:i<M.length) {F:Nat} {r:RS Thr} (hr:Kp M F (i+1) [] (AN M i)=some r):
  Calls Tryz.prog 138 #[.pointer (some ⟨g,0,none⟩)] w (GV g lv N r (fun t j w'=>∃v' M',EW M M' j/\CE M'/\S5 M' B g lv j {p with e:=v'} w'/\EV w' N v' ([]++[t])) w):=by
 obtain⟨i0,hi0,hz0,hz1,hz2⟩:=info_parts Ye;have HZ:=AA (show Tryz.prog.info? 41=some i0/\i0.zero=some (.agg #[.string ⟨#[]⟩,.slice none 0 0,.slice none 0 0,.int .i64 0])/\i0.size=4/\i0.bytes=72 from⟨hi0,hz0,hz1,hz2⟩);obtain⟨K,hK,hmap⟩:=ho;have HKO:=AA hK;have HMP:=AA hmap;have HKL:Hid (K.length<=10000):=AA (by rw[List.map_eq_nil_iff]at hmap;rw[hmap];simp);have HH:=AA h;have HW:=AA hwd;have HGN:=AA hgN;have HLN:=AA hlN;have HNW:=AA hNw;obtain⟨pl,hpl⟩:∃pl,AN M i=pl:=⟨_,rfl⟩
 rw[hpl]at hr;have HR1:=AA hr;have HPL:=AA (Q1 h);rw[hpl]at HPL;obtain⟨A6,c6v,hv6, -, -, -⟩:=AS hK.row;have hk0:K.length=0:=by rw[List.map_eq_nil_iff]at hmap;rw[hmap];rfl
 rw[hk0]at hv6;have HV6:=AA hv6;obtain⟨q0,hb0⟩:=h.blk;obtain⟨hgl, -, -, -, -, -, -,c6, -, -, -⟩:=hb0.cells;rw[hv6]at c6;have hlen:=h.len;have HI:=AA hi;clear hi0 hz0 hz1 hz2 hK hmap h hwd hgN hlN hNw hr hb0 hi hpl hv6 hk0;go_enter Tryz.func138,Tryz.ntmps138;go_wp2_with fail
 refine HPL.out.mono ?_;rintro e w2 ⟨rfl,hb2⟩;have HS2:=AA (HH.out.on hb2);have HK2:Hid (AG (fun q=>q=g) w w2):=AA (AG.of hb2);have HBZ:Hid (w.heap.size<=w2.heap.size):=AA hb2.size;clear hb2 c6;obtain⟨q2,hbk2⟩:=HS2.out.blk;obtain⟨hgl2, -,c1, -, -, -, -, -, -, -,fz⟩:=hbk2.cells;have f1:=fz 1;have hw1:IntKind.i64.wrap ((i:Int)+1)=(i:Int)+1:=IntWalk.i64_in _ (by have:=HI.out;omega);clear hbk2 fz;go_wp2_with fail
 obtain⟨b,hbz⟩:∃b,w2.heap.size=b:=⟨_,rfl⟩
 have hsz:(w2.setCell ⟨g,1,none⟩ (.int .i64 ((i:Int)+1))).heap.size=b:=by rw[<-hbz];simp
 have HS3:Hid (S5 M B g lv (i+1) p (w2.setCell ⟨g,1,none⟩ (.int .i64 ((i:Int)+1)))):=AA (HS2.out.set1 (by have:=HI.out;omega));have hk3:AG (fun q=>q=g) w2 (w2.setCell ⟨g,1,none⟩ (.int .i64 ((i:Int)+1))):=AG.set;have HK3:=AA (Ag HK2.out hk3);rw[hbz];have HBW:Hid (w.heap.size<=b):=AA (by have:=HBZ.out;omega);have HB8:Hid (8<b):=AA (by have:=HS2.out.tabs.lt2;omega);generalize w2.setCell ⟨g,1,none⟩ (.int .i64 ((i:Int)+1))=w3 at *;have hX1:(w3.alloc (.cells #[.string ⟨#[]⟩,.slice none 0 0,.slice none 0 0,.int .i64 pl] 41)).heap[b]?=_:=alloc_at hsz
 have hBX:Below w3.heap.size w3 (w3.alloc (.cells #[.string ⟨#[]⟩,.slice none 0 0,.slice none 0 0,.int .i64 pl] 41)):=(Below.refl _ _).alloc (Nat.le_refl _) _;generalize w3.alloc (.cells #[.string ⟨#[]⟩,.slice none 0 0,.slice none 0 0,.int .i64 pl] 41)=w5 at *;have HX5:Hid (IJ w5 b [] (.slice none 0 0) (.slice none 0 0) pl):=AA hX1;have HS5:=AA (HS3.out.on hBX);have HK5:=AA (AT HK3.out hBX);clear hX1 hBX hbz hsz hk3;clear c1 f1 hw1 hgl hgl2;refine(QCq HS5.out HW.out HX5.out HB8.out HR1.out).mono ?_;intro e X hp;have HWN:Hid (N<=w5.heap.size):=AA (by have:=HNW.out;have:=HK5.out.size;omega);have HPX:=AA hp
 have HTX:Hid (AG (Ko g lv N) w X):=AA ((CX HK5.out).trans hp.1 (fun _ _ h=>h) (fun k hk e=>e.elim .inl (fun e=>e.elim (fun e=>by have:=HBW.out;omega) (fun e=>.inr (.inl e)))));obtain⟨er,i2,q2,s,AR,nR,cR,AB,nB,cB,pl',rfl,hbx2,hxb2⟩:=hp.any;have HBX:=AA hbx2;have HXB:=AA hxb2;obtain⟨hgX, -, -, -, -, -,k5,k6, -, -,fzX⟩:=hbx2.cells;have c5:=k6;have f5:=fzX 6;have z0:X.cell? ⟨b,0,none⟩=some (.string s):=by rw[Lib.cell_of_heap hxb2];rfl
 have z1:X.cell? ⟨b,1,none⟩=some (.slice AR nR cR):=by rw[Lib.cell_of_heap hxb2];rfl
 have z2:X.cell? ⟨b,2,none⟩=some (.slice AB nB cB):=by rw[Lib.cell_of_heap hxb2];rfl
 have z3:X.cell? ⟨b,3,none⟩=some (.int .i64 pl'):=by rw[Lib.cell_of_heap hxb2];rfl
 have HKX:Hid (Ci X N p.e K):=AA ((HKO.out.keepT HK5.out (fun q cs T hB hh hT e=>by have:=HGN.out;omega)).keepR hp.1 (fun q hq e=>by
  have hqw:q<w.heap.size:=(Array.getElem?_eq_some_iff.1 (AI HKO.out.row q hq).2.choose_spec).1;have hqN:=(AI HKO.out.row q hq).1;rcases e with e|e|e
  ·have:=HGN.out;omega
  ·have:=HBW.out;omega
  ·have:=HLN.out q e;omega) (fun q cs T hB hh hT e=>by
  rcases e with e|e|e
  ·have:=HGN.out;omega
  ·rw[e,show w5.heap[b]?=_ from HX5.out]at hh;simp only[Option.some.injEq,Obj.cells.injEq]at hh;rw[<-hh.2.1]at hT;simp at hT
  ·have:=HLN.out q e;omega))
 have HNO:Hid (∀q,p.e.ownBlock=some q->q≠g):=AA (fun q hq e=>by have:=(AI HKX.out.row q hq).1;have:=HGN.out;omega);have HNX:Hid (N<=X.heap.size):=AA (by have:=HNW.out;have:=HTX.out.size;omega);clear hp hbx2 hxb2 fzX k5 k6;go_wp2_with fail
 go_region_law (refine step_append_lies _ rfl (.tmp 31) (.tmp 33) 24 rfl N 41 i0 (.agg #[.string ⟨#[]⟩,.slice none 0 0,.slice none 0 0,.int .i64 0]) 4 72 Tryz.underlying24 HZ.out.1 HZ.out.2.1 HZ.out.2.2.1 HZ.out.2.2.2 rfl (by decide) p.e K.length (K.flatMap DI) (by rfl) (PW HKX.out.row) ⟨X.heap.size,0,none⟩ 1 1 [.string s,.slice AR nR cR,.slice AB nB cB,.int .i64 pl'] (by rfl) (by rfl) (World.news_of_block (cs:=#[.string s,.slice AR nR cR,.slice AB nB cB,.int .i64 pl']) (Qh X _)) UX (by decide) (by have:=HKL.out;unfold maxLen;omega) (by have:=HKL.out;omega) (Jc HNX.out) (X.heap.size+1) (by simp) ?_;intro g5 cap w5 hown5 hgrow5 hat5 hlt5;obtain⟨d5,e5⟩:=cell_grown hgrow5 HNO.out hgX c5 f5;have hg5:g<w5.heap.size:=Nat.lt_of_lt_of_le hgX (Nat.le_trans (by simp) hgrow5.size))
 all_goals
  have HFIN:=AA (QCt (B:=B) HTX.out HBX.out HGN.out HKX.out hgrow5 hown5);clear hown5 hgrow5 hat5;go_wp2_with fail
  go_ret;obtain⟨f1,f2,f3,f4⟩:=HFIN.out;refine⟨f1,?_⟩;have h2:=HPX.out.2;cases r with
  |bad e2 q=>
   obtain⟨he,hne,⟨i3,hb3⟩,A,n,c,hx⟩:=h2;simp only[Ending.returned.injEq,Value.int.injEq,true_and]at he;subst he;have hq:q2=q:=by
    have h3:=HBX.out;unfold Bf at h3 hb3;rw[h3]at hb3;simp at hb3;exact hb3.2
   subst hq;exact⟨rfl,hne,i2,_,f2⟩
  |ok t m=>
   obtain⟨he,M',vR,vB,hag,hwd',hs',hb',hR',hB'⟩:=h2;simp only[Ending.returned.injEq,Value.int.injEq,true_and]at he;subst he;have hbx:=HXB.out;unfold IJ at hb';rw[hb']at hbx;simp only[Option.some.injEq,Obj.cells.injEq,and_true,Array.mk.injEq,List.cons.injEq,Value.string.injEq,Value.int.injEq,true_and]at hbx;obtain⟨hq1,rfl,rfl,hq4⟩:=hbx;refine⟨rfl,_,M',hag,hwd',f3 M' m hs',?_⟩;have h9:=f4 t hq1.symm hq4.symm (hR'.base HWN.out) (hB'.base HWN.out);rw[HMP.out]at h9;exact h9
theorem Yh {A:Option Addr} {n c:Nat} {pl:Int}:∀u∈[Value.slice A n c,.int .i64 pl],u.oneCell'=true:=by
 intro u hu;simp at hu;rcases hu with rfl|rfl<;>rfl
theorem QGL {X w5:World} {i2 q2:Int} {K:List Cv} {vE v5:Value} {pl:Int} {o:Obj} (hX:AG (Ko g lv N) w X) (hb:Bf X g lv i2 p q2) (hgN:g<N) (hK:Dy X N p.f K)
  (hgrow:(X.drew.alloc o).grownBy w5 p.f.ownBlock) (hown:w5.ownsRow N 50 2 v5 (K.length+1) (K.flatMap Ed++[vE,.int .i64 pl])) {e:List Nod} (hE:B0 N X vE e):
  AG (Ko g lv N) w (w5.setCell ⟨g,7,none⟩ v5)/\Bf (w5.setCell ⟨g,7,none⟩ v5) g lv i2 {p with f:=v5} q2/\(∀m,S5 M B g lv m p X->S5 M B g lv m {p with f:=v5} (w5.setCell ⟨g,7,none⟩ v5))/\Dy (w5.setCell ⟨g,7,none⟩ v5) N v5 (K++[⟨⟨e,pl⟩,vE⟩]):=by
 have hB1:Below X.heap.size X (X.drew.alloc o):=(AD X).alloc (Nat.le_refl _) o;have hk1:AG (fun q=>p.f.ownBlock=some q) X w5:=Cd hB1 (AG.grown hgrow);have hng:¬p.f.ownBlock=some g:=fun e=>by have:=(AI hK.row g e).1;omega
 have hks:AG (fun q=>q=g) w5 (w5.setCell ⟨g,7,none⟩ v5):=AG.set;have hb5:Bf w5 g lv i2 p q2:=Et hb hk1 hng;have hbk:Bf (w5.setCell ⟨g,7,none⟩ v5) g lv i2 {p with f:=v5} q2:=Af hb5;have hty:∀q,p.f.ownBlock=some q->N<=q/\∃cs,X.heap[q]?=some (.cells cs 50 (0,0)):=AI hK.row;have hkk:AG (fun q=>q=g\/p.f.ownBlock=some q) X (w5.setCell ⟨g,7,none⟩ v5):=hk1.trans hks (fun _ _ h=>.inr h) (fun _ _ h=>.inl h);have hav:Av (fun q=>q=g\/p.f.ownBlock=some q) X N [46]:=fun q cs T hB hh hT=>by
  rintro(e|e)
  ·omega
  ·obtain⟨_,cs1,h5⟩:=hty q e;rw[h5]at hh;simp only[Option.some.injEq,Obj.cells.injEq]at hh;rw[<-hh.2.1]at hT;simp at hT
 refine⟨Ag (hX.trans hk1 (fun _ _ h=>h) (fun k _ e=>.inr (.inr (hty k e).1))) (CX hks),hbk,fun m hs=>?_,⟨?_,fun x hx=>?_⟩⟩
 ·have hi2:i2=m:=by
   obtain⟨q3,hq3⟩:=hs.blk;unfold Bf at hb hq3;rw[hb]at hq3;simp at hq3;exact hq3.1
  subst hi2;exact(hs.far hk1 hng (fun q hq e=>by
   obtain⟨_,cs1,h5⟩:=hty q e;obtain⟨_,cs2,h6⟩:=AI hs.toks q hq;rw[h5]at h6;simp at h6) (fun q hq e=>by have:=(hty q e).1;have:=hs.gB;omega)).put hks hbk hs.il
 ·rw[List.length_append,List.flatMap_append];have h6:w5.ownsRow N 50 2 v5 (K.length+1) (K.flatMap Ed++[(⟨⟨e,pl⟩,vE⟩:Cv)].flatMap Ed):=hown;exact AO h6 hks (fun q hq e=>by have:=(AI h6 q hq).1;omega)
 ·rcases List.mem_append.1 hx with hx|hx
  ·exact(hK.sub x hx).keepT hkk hav
  ·obtain rfl:x=⟨⟨e,pl⟩,vE⟩:=by simpa using hx
   exact hE.keepT hkk hav
set_option maxRecDepth 100000 in
set_option maxHeartbeats 16000000 in
theorem QCv (h:S5 M B g lv i p w) (hgN:g<N) (hNw:N<=w.heap.size) {cs:List Clm} (ho:Ir w N p.f cs) (hls:cs.length<=10000) (hi:i<M.length) {r:RS Clm} (hr:FH M (i+1) (AN M i)=r):
  Calls Tryz.prog 139 #[.pointer (some ⟨g,0,none⟩)] w (GV g lv N r (fun c j w'=>∃v',S5 M B g lv j {p with f:=v'} w'/\Ir w' N v' (cs++[c])) w):=by
 obtain⟨i0,hi0,hz0,hz1,hz2⟩:=info_parts Yf;have HZ:=AA (show Tryz.prog.info? 50=some i0/\i0.zero=some (.agg #[.slice none 0 0,.int .i64 0])/\i0.size=2/\i0.bytes=32 from⟨hi0,hz0,hz1,hz2⟩);obtain⟨K,hK,hmap⟩:=ho;have HKO:=AA hK;have HMP:=AA hmap;have HKL:Hid (K.length<=10000):=AA (by rw[<-hmap,List.length_map]at hls;exact hls);have HH:=AA h;have HGN:=AA hgN;have HNW:=AA hNw;obtain⟨pl,hpl⟩:∃pl,AN M i=pl:=⟨_,rfl⟩
 rw[hpl]at hr;have HR1:=AA hr;have HPL:=AA (Q1 h);rw[hpl]at HPL;have hlen:=h.len;have HI:=AA hi;clear hi0 hz0 hz1 hz2 hK hmap h hgN hNw hr hi hpl hls;go_enter Tryz.func139,Tryz.ntmps139;go_wp2_with fail
 refine HPL.out.mono ?_;rintro e w2 ⟨rfl,hb2⟩;have HS2:=AA (HH.out.on hb2);have HK2:Hid (AG (fun q=>q=g) w w2):=AA (AG.of hb2);have HBZ:Hid (w.heap.size<=w2.heap.size):=AA hb2.size;clear hb2;obtain⟨q2,hbk2⟩:=HS2.out.blk;obtain⟨hgl2, -,c1, -, -, -, -, -, -, -,fz⟩:=hbk2.cells;have f1:=fz 1;have hw1:IntKind.i64.wrap ((i:Int)+1)=(i:Int)+1:=IntWalk.i64_in _ (by have:=HI.out;omega);clear hbk2 fz;go_wp2_with fail
 obtain⟨b,hbz⟩:∃b,w2.heap.size=b:=⟨_,rfl⟩
 have hsz:(w2.setCell ⟨g,1,none⟩ (.int .i64 ((i:Int)+1))).heap.size=b:=by rw[<-hbz];simp
 have HS3:Hid (S5 M B g lv (i+1) p (w2.setCell ⟨g,1,none⟩ (.int .i64 ((i:Int)+1)))):=AA (HS2.out.set1 (by have:=HI.out;omega));have hk3:AG (fun q=>q=g) w2 (w2.setCell ⟨g,1,none⟩ (.int .i64 ((i:Int)+1))):=AG.set;have HK3:=AA (Ag HK2.out hk3);rw[hbz];have HBW:Hid (w.heap.size<=b):=AA (by have:=HBZ.out;omega);generalize w2.setCell ⟨g,1,none⟩ (.int .i64 ((i:Int)+1))=w3 at *;have hX1:(w3.alloc (.cells #[.slice none 0 0,.int .i64 pl] 50)).heap[b]?=_:=alloc_at hsz;have hBX:Below w3.heap.size w3 (w3.alloc (.cells #[.slice none 0 0,.int .i64 pl] 50)):=(Below.refl _ _).alloc (Nat.le_refl _) _
 generalize w3.alloc (.cells #[.slice none 0 0,.int .i64 pl] 50)=w5 at *;have HX5:Hid (w5.heap[b]?=some (.cells #[.slice none 0 0,.int .i64 pl] 50 (0,0))):=AA hX1;have HS5:=AA (HS3.out.on hBX);have HK5:=AA (AT HK3.out hBX);obtain⟨q5,hbk5⟩:=HS5.out.blk;have hbg:¬b=g:=Of hbk5 hX1 (by decide);have hgb:¬g=b:=fun e=>hbg e.symm
 obtain⟨hgl,c0,c1', -, -, -, -, -, -, -, -⟩:=hbk5.cells;clear hX1 hBX hbz hsz hk3 c1 f1 hw1 hgl2 hbk5;unfold FH at HR1;obtain⟨V,hV⟩:∃V,EA M ((i+1:Nat):Int)=V:=⟨_,rfl⟩
 have HVV:=AA hV;clear hV;go_region_held3 (fun w'=>w'.cell? ⟨g,0,none⟩=some lv/\w'.cell? ⟨g,1,none⟩=some (.int .i64 ((i+1:Nat):Int))/\Below w5.heap.size w5 w')
  (first|exact⟨c0,c1',Below.refl _ _⟩|exact⟨c0,c1',AD _⟩|exact⟨(hb1.cell (p:=⟨g,0,none⟩) hgl).trans c0,(hb1.cell (p:=⟨g,1,none⟩) hgl).trans c1',AC (AD _) hb1⟩)
  (first|(go_at_call 185;refine(parse_any lv M ((i+1:Nat):Int) _ (HS5.out.on (AD _)).read (HS5.out.on (AD _)).tabs HS5.out.len HS5.out.small).mono ?_;rw[HVV.out];rintro e w6 ⟨v,rfl,ho,hb1⟩))
 obtain⟨A5,n5,c5,rfl⟩:=Eh ho;have HO:=AA ho;have HBE:=AA (AC (AD w5) hb1);have HS6:=AA (HS5.out.on HBE.out);have HX6:Hid (w6.heap[b]?=some (.cells #[.slice none 0 0,.int .i64 pl] 50 (0,0))):=AA (by rw[HBE.out.block b (Array.getElem?_eq_some_iff.1 HX5.out).1];exact HX5.out);have HK6:=AA (AT HK5.out HBE.out);obtain⟨q6,hbk6⟩:=HS6.out.blk;obtain⟨hgl6,d0,d1, -, -, -, -, -, -,d8,fz⟩:=hbk6.cells;have f8:=fz 8;clear ho hb1 c0 c1' hbk6;by_cases he:V.err=0
 ·rcases MJ M (i+1)with⟨hx,_⟩|⟨x,_,_,_,_,m,hx,hx1,hx2⟩
  ·rw[HVV.out]at hx;exact absurd he hx
  have HP:Hid (exprP M (i+1)=.ok x.flat m):=AA (by unfold exprP;rw[HVV.out,if_pos he,<-HVV.out,hx];simp);rw[HVV.out]at hx;subst hx;simp only at HO⊢;have hne0:((0:Int) != 0)=false:=by decide
  have HR2:Hid ((Bo M m [59]).bind (fun _ k=>.ok ⟨x.flat,pl⟩ k)=r):=AA (by have h1:=HR1.out;rw[HP.out]at h1;exact h1);have HML:Hid (m<=M.length):=AA hx2;have hE6:B0 w.heap.size w6 (.slice A5 n5 c5) x.flat:=HO.out.readE HK5.out.size;have xb0:w6.cell? ⟨b,0,none⟩=some (.slice none 0 0):=by rw[Lib.cell_of_heap HX6.out];rfl
  have fb0:w6.frozen? ⟨b,0,none⟩=false:=Lib.frozen_of_heap HX6.out 0;have hkb:AG (fun q=>q=b) w6 (w6.setCell ⟨b,0,none⟩ (.slice A5 n5 c5)):=AG.set;have hxX:(w6.setCell ⟨b,0,none⟩ (.slice A5 n5 c5)).heap[b]?=some (.cells #[.slice A5 n5 c5,.int .i64 pl] 50 (0,0)):=Af HX6.out;have hsX:S5 M B g lv (i+1) p (w6.setCell ⟨b,0,none⟩ (.slice A5 n5 c5)):=HS6.out.far hkb hgb (fun q hq e=>by
   obtain⟨_,cs2,h6⟩:=AI HS6.out.toks q hq;rw[e,HX6.out]at h6;simp at h6) (fun q hq e=>by have:=HBW.out;have:=HS2.out.tabs.lt2;have:=HH.out.tabs.lt2;omega)
  have HKX0:=AA (Fg HK6.out hkb HBW.out);have HEX:Hid (B0 N (w6.setCell ⟨b,0,none⟩ (.slice A5 n5 c5)) (.slice A5 n5 c5) x.flat):=AA ((hE6.base HNW.out).keepT hkb (fun q cs T hB hh hT e=>by
   simp at hT;subst hT;rw[e,HX6.out]at hh;simp at hh))
  have HKX:Hid (Dy (w6.setCell ⟨b,0,none⟩ (.slice A5 n5 c5)) N p.f K):=AA (by
   have h1:Dy w6 N p.f K:=HKO.out.keepT HK6.out (fun q cs T hB hh hT e=>by have:=HGN.out;omega);refine⟨AO h1.row hkb (fun q hq e=>?_),fun x hx=>(h1.sub x hx).keepT hkb (fun q cs T hB hh hT e=>?_)⟩
   ·have:=(Array.getElem?_eq_some_iff.1 (AI HKO.out.row q hq).2.choose_spec).1;have:=HBW.out;omega
   ·simp at hT;subst hT;rw[e,HX6.out]at hh;simp at hh)
  have HSX:=AA hsX;have HXX:=AA hxX;clear hx1 hx2 he hE6 hkb hxX hsX d0 d1 d8 f8 fz;go_wp2_with fail
  generalize w6.setCell ⟨b,0,none⟩ (.slice A5 n5 c5)=X at *;obtain⟨qX,hbX⟩:=HSX.out.blk;have HBX:=AA hbX;obtain⟨hgX, -, -, -, -, -, -, -,c7, -,fzX⟩:=hbX.cells;have f7:=fzX 7;have z0:X.cell? ⟨b,0,none⟩=some (.slice A5 n5 c5):=by rw[Lib.cell_of_heap HXX.out];rfl
  have z1:X.cell? ⟨b,1,none⟩=some (.int .i64 pl):=by rw[Lib.cell_of_heap HXX.out];rfl
  have HNO:Hid (∀q,p.f.ownBlock=some q->q≠g):=AA (fun q hq e=>by have:=(AI HKX.out.row q hq).1;have:=HGN.out;omega);have HNX:Hid (N<=X.heap.size):=AA (by have:=HNW.out;have:=HKX0.out.size;omega);clear hbX fzX xb0 fb0
  go_region_law (refine step_append_lies _ rfl (.tmp 46) (.tmp 48) 25 rfl N 50 i0 (.agg #[.slice none 0 0,.int .i64 0]) 2 32 Tryz.underlying25 HZ.out.1 HZ.out.2.1 HZ.out.2.2.1 HZ.out.2.2.2 rfl (by decide) p.f K.length (K.flatMap Ed) (by rfl) (PW HKX.out.row) ⟨X.heap.size,0,none⟩ 1 1 [.slice A5 n5 c5,.int .i64 pl] (by rfl) (by rfl) (World.news_of_block (cs:=#[.slice A5 n5 c5,.int .i64 pl]) (Qh X _)) Yh (by decide) (by have:=HKL.out;unfold maxLen;omega) (by have:=HKL.out;omega) (Jc HNX.out) (X.heap.size+1) (by simp) ?_;intro g5 cap w7 hown5 hgrow5 hat5 hlt5;obtain⟨d5,e5⟩:=cell_grown hgrow5 HNO.out hgX c7 f7;have hg5:g<w7.heap.size:=Nat.lt_of_lt_of_le hgX (Nat.le_trans (by simp) hgrow5.size))
  all_goals
   obtain⟨f1,f2,f3,f4⟩:=QGL (M:=M) (B:=B) (CX (lv:=lv) (N:=N) HKX0.out) HBX.out HGN.out HKX.out hgrow5 hown5 HEX.out;have hs8:=f3 _ HSX.out;have hb7:Bf w7 g lv ((i+1:Nat):Int) p qX:=Et HBX.out (Cd ((AD X).alloc (Nat.le_refl _) _) (AG.grown hgrow5)) (fun e=>HNO.out g e rfl);obtain⟨hl7, -,m1, -, -, -, -, -, -, -,fz7⟩:=hb7.cells;have fm1:=fz7 1;clear fz7 hb7;have HT8:=AA f1;have HS8:=AA hs8;have HO8:=AA f4;clear hown5 hgrow5 hat5 f1 f2 f3 f4 hs8;go_wp2_with fail
   generalize w7.setCell ⟨g,7,none⟩ (.slice (some ⟨g5,0,none⟩) (K.length+1) cap)=w8 at *;have HS9:Hid (S5 M B g lv m {p with f:=.slice (some ⟨g5,0,none⟩) (K.length+1) cap} (w8.setCell ⟨g,1,none⟩ (.int .i64 m))):=AA (HS8.out.set1 HML.out);have hk9:AG (fun q=>q=g) w8 (w8.setCell ⟨g,1,none⟩ (.int .i64 m)):=AG.set;have HT9:=AA (Ag HT8.out (CX hk9));have HO9:=AA (HO8.out.keepT hk9 (fun q cs T hB hh hT e=>by have:=HGN.out;omega));clear hk9;generalize w8.setCell ⟨g,1,none⟩ (.int .i64 m)=w9 at *;clear d5 e5 hg5 hlt5 m1 fm1 hl7;refine(Ya HS9.out [59]).mono ?_;intro e w10 hp;obtain⟨hk10,hp⟩:=hp
   have HT10:=AA (Ag HT9.out (CX hk10));have HO10:=AA (HO9.out.keepT hk10 (fun q cs T hB hh hT e=>by have:=HGN.out;omega));cases hm:Bo M m [59]with
   |bad er q=>
    rw[hm]at hp;obtain⟨rfl,hne,i4,hb4⟩:=hp;have HNE:=AA hne;have HB4:=AA hb4;have HRR:Hid (r=.bad er q):=AA (by have h1:=HR2.out;rw[hm]at h1;exact h1.symm);clear hm hk10 hne hb4;go_wp2_with fail
    go_ret;rw[HRR.out];exact⟨HT10.out,rfl,HNE.out,i4,_,HB4.out⟩
   |ok u j=>
    rw[hm]at hp;obtain⟨rfl,hs10⟩:=hp;have HS10:=AA hs10;have HRR:Hid (r=.ok ⟨x.flat,pl⟩ j):=AA (by have h1:=HR2.out;rw[hm]at h1;exact h1.symm);clear hm hk10 hs10;go_wp2_with fail
    go_ret;rw[HRR.out];exact⟨HT10.out,rfl,_,HS10.out,_,HO10.out,by rw[List.map_append,HMP.out];rfl⟩
 ·have HP:Hid (exprP M (i+1)=.bad V.err V.pl):=AA (by unfold exprP;rw[HVV.out,if_neg he]);have HRR:Hid (r=.bad V.err V.pl):=AA (by have h1:=HR1.out;rw[HP.out]at h1;exact h1.symm);have HNE:=AA he;clear HVV HP;obtain⟨Vn,Vt,er,p6⟩:=V;simp only at he HRR HNE⊢;have hne2:(er != 0)=true:=by simp[he]
  clear he;go_wp2_with fail
  go_ret;rw[HRR.out];have hks:AG (fun q=>q=g) w6 (w6.setCell ⟨g,8,none⟩ (.int .i64 p6)):=AG.set;exact⟨CX (Ag HK6.out hks),rfl,HNE.out,_,p,(HS6.out.set8 p6).2⟩
end
end Go.Proofs.YthfkpalfopdmhaaGreatDoor

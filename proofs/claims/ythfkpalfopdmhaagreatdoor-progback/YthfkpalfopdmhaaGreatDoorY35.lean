/- Texts of the walk, packed. -/
import Derived.Test.YthfkpalfopdmhaaGreatDoorY33
import Derived.Test.YthfkpalfopdmhaaGreatDoorY30
import Derived.Test.YthfkpalfopdmhaaGreatDoorY34
import Derived.Test.YthfkpalfopdmhaaGreatDoorY00
namespace Go.Proofs.YthfkpalfopdmhaaGreatDoor
open Go.RowKit
set_option maxRecDepth 100000 in
set_option maxHeartbeats 2000000 in
theorem QFH (c:Nod) (w:World):Calls Tryz.prog 148 #[.agg #[.int .i64 c.op,.int .i64 c.n,.string ⟨c.name.toArray⟩,.int .i64 c.pl]] w (fun e w'=>e=.returned (.agg #[.int .i64 c.op,.int .i64 c.n,.string ⟨c.name.toArray⟩,.int .i64 0])∧Below w.heap.size w w'):=by
 go_enter Tryz.func148,Tryz.ntmps148
 go_wp2_with fail
 refine bodyPost_ret (v:=.agg #[.int .i64 c.op,.int .i64 c.n,.string ⟨c.name.toArray⟩,.int .i64 0]) (by simp[results,Tryz.results148,go_sem]) rfl ?_
 refine⟨rfl,?_⟩
 repeat(first|exact Below.refl _ _|(refine Below.setCell ?_ (by simp) _)|(refine Below.alloc ?_ (by simp) _))
set_option maxRecDepth 100000 in
set_option maxHeartbeats 8000000 in
theorem QFI {K:List Nod} {v:Value} {w:World} (h:BA w v K) (hl:K.length≤10000):
  Calls Tryz.prog 147 #[v,.func (.func 148) #[] #[]] w (fun e w'=>∃u,e=.returned u∧CE w' w.heap.size u (K.map bareN)∧Below w.heap.size w w'):=by
 obtain⟨i0,hi0,hz0,hz1,hz2⟩:=info_parts info30
 have HZ:=AA (show Tryz.prog.info? 46=some i0∧i0.zero=some (.agg #[.int .i64 0,.int .i64 0,.string ⟨#[]⟩,.int .i64 0])∧i0.size=4∧i0.bytes=40 from⟨hi0,hz0,hz1,hz2⟩)
 have HO:=AA h
 obtain⟨A,c,rfl,hc,hm1,hr1⟩:=h
 clear hi0 hz0 hz1 hz2 hr1
 go_enter Tryz.func147,Tryz.ntmps147
 go_wp2_with fail
 go_loopw [5,10] (fun all i wr=>∃k:Nat,k≤K.length∧i=.int .i64 k∧Below w.heap.size w wr∧CE wr w.heap.size all ((K.take k).map bareN)) (fun _ i _=>K.length-(intOf i).toNat)
 case atStart=>exact⟨0,Nat.zero_le _,rfl,Below.refl _ _,Ez _ _⟩
 case round=>
  obtain⟨k,hk,rfl,hbel,hacc⟩:=hrel
  have HB:=AA hbel
  have HA:=AA hacc
  have hsz:=hbel.size
  by_cases hlt:k<K.length
  ·have ha:K[k]?=some K[k]:=List.getElem?_eq_getElem hlt
   generalize K[k]=a at *
   have HT:Hid ((K.take (k+1)).map bareN=(K.take k).map bareN++[bareN a]):=AA (by rw[List.take_add_one,ha,List.map_append];rfl)
   have HN:Hid (((K.take k).map bareN).length=k):=AA (by simp;omega)
   obtain⟨A2,c2,hv,_,_,hr⟩:=HO.out.on hbel
   obtain⟨rfl,_,rfl⟩:A=A2∧True∧c=c2:=by simpa using hv
   obtain⟨g,o,rfl,hg,x0,x1,x2,x3⟩:=hr k a ha
   obtain⟨A3,c3,rfl, -, -, -⟩:=AX hacc
   generalize(K.take k).map bareN=acc at *
   clear ha hr hv hbel hacc
   go_wp2_with fail
   refine(QFH a _).mono ?_
   rintro e w1 ⟨rfl,hb⟩
   have HB1:=AA ((HB.out.alloc hsz _).trans (hb.mono (by simp;omega)))
   have HA1:=AA (AW (P:=fun _=>False) HA.out (AG.of (((Below.refl wr.heap.size wr).alloc (Nat.le_refl _) _).trans (hb.mono (by simp)))) (fun _ _=>id))
   have hsz1:=HB1.out.size
   have hk1:=hlt
   clear hb
   go_wp2_with (at_builtin;refine wpList_append_own _ rfl (.tmp 14) (.tmp 18) 42 rfl w.heap.size 46 i0 (.agg #[.int .i64 0,.int .i64 0,.string ⟨#[]⟩,.int .i64 0]) 4 40 Tryz.underlying42 HZ.out.1 HZ.out.2.1 HZ.out.2.2.1 HZ.out.2.2.2 rfl (by decide) _ acc.length (Do acc) rfl ?dO ⟨w1.heap.size,0,none⟩ 1 1 (CQ (bareN a)) (by rfl) (by rfl) ?d1 ?d2 ?d3 ?d4 ?d5 ?_)
   case dO=>exact AW (P:=fun _=>False) HA1.out (AG.of ((Below.refl w1.heap.size w1).alloc (Nat.le_refl _) _)) (fun _ _=>id)
   case d1=>exact World.news_of_block (cs:=(CQ (bareN a)).toArray) (alloc_at rfl)
   case d2=>intro u hu;exact XW [bareN a] u (by rw[O7];exact hu)
   case d3=>rw[HN.out];unfold maxLen;omega
   case d4=>rw[HN.out];omega
   case d5=>simp;omega
   intro v5 w5 hown5 hgrow5 _
   have HB5:Hid (Below w.heap.size w w5):=AA ((HB1.out.alloc hsz1 _).grown hgrow5 (by simp;omega) (fun q hq=>(AM HA1.out q hq).1))
   have HA5:Hid (CE w5 w.heap.size v5 (acc++[bareN a])):=AA (by
    unfold CE;rw[O6,O7,List.length_append];exact hown5)
   obtain⟨A5,n5,c5,rfl⟩:∃A n c,v5=.slice A n c:=by
    obtain⟨A,c,hv,_⟩:=AX hown5
    exact⟨A,_,c,hv⟩
   clear hown5 hgrow5
   go_wp2_with fail
   go_roundw
   case rel=>exact⟨k+1,by omega,by go_num,HB5.out,by rw[HT.out];exact HA5.out⟩
   case measure=>simp[intOf];omega
  ·have hkk:K.take k=K:=List.take_of_length_le (by omega)
   rw[hkk]at HA
   clear hbel hacc
   go_wp2_with fail
   go_ret
   exact⟨_,rfl,HA.out,HB.out⟩
set_option maxRecDepth 100000 in
set_option maxHeartbeats 2000000 in
theorem Tu {K:List Nod} {v:Value} {w:World} (h:BA w v K) (hl:K.length≤10000):
  Calls Tryz.prog 98 #[v] w (fun e w'=>∃u,e=.returned u∧CE w' w.heap.size u (K.map bareN)∧Below w.heap.size w w'):=by
 have HC:=AA (QFI h hl)
 clear h
 go_enter Tryz.func98,Tryz.ntmps98
 go_wp2_with fail
 refine HC.out.mono ?_
 rintro e w1 ⟨u,rfl,ho,hb⟩
 have HB:=AA hb
 have HO:=AA ho
 obtain⟨A,c,rfl, -, -, -⟩:=AX ho
 clear hb ho
 go_wp2_with fail
 go_ret
 have h9:=HO.out
 rw[List.length_map]at h9
 exact⟨_,rfl,h9,HB.out⟩
set_option maxRecDepth 100000 in
set_option maxHeartbeats 2000000 in
theorem QFQ (c:Cel) (w:World):Calls Tryz.prog 93 #[.agg #[.string ⟨c.name.toArray⟩,.int .i64 c.n,.int .i64 c.pl]] w (fun e w'=>e=.returned (.agg #[.string ⟨c.name.toArray⟩,.int .i64 c.n,.int .i64 0])∧Below w.heap.size w w'):=by
 go_enter Tryz.func93,Tryz.ntmps93
 go_wp2_with fail
 refine bodyPost_ret (v:=.agg #[.string ⟨c.name.toArray⟩,.int .i64 c.n,.int .i64 0]) (by simp[results,Tryz.results93,go_sem]) rfl ?_
 refine⟨rfl,?_⟩
 repeat(first|exact Below.refl _ _|(refine Below.setCell ?_ (by simp) _)|(refine Below.alloc ?_ (by simp) _))
set_option maxRecDepth 100000 in
set_option maxHeartbeats 8000000 in
theorem QFR {K:List Cel} {v:Value} {w:World} {B:Nat} (h:CX w B v K) (hl:K.length≤10000):
  Calls Tryz.prog 92 #[v,.func (.func 93) #[] #[]] w (fun e w'=>∃u,e=.returned u∧CX w' w.heap.size u (K.map bareCel)∧Below w.heap.size w w'):=by
 obtain⟨i0,hi0,hz0,hz1,hz2⟩:=info_parts Oj
 have HZ:=AA (show Tryz.prog.info? 48=some i0∧i0.zero=some (.agg #[.string ⟨#[]⟩,.int .i64 0,.int .i64 0])∧i0.size=3∧i0.bytes=32 from⟨hi0,hz0,hz1,hz2⟩)
 have HO:=AA h
 obtain⟨A,c,rfl,hc,hm1,hr1⟩:=h.reads
 clear hi0 hz0 hz1 hz2 hr1 h
 go_enter Tryz.func92,Tryz.ntmps92
 go_wp2_with fail
 go_loopw [5,10] (fun all i wr=>∃k:Nat,k≤K.length∧i=.int .i64 k∧Below w.heap.size w wr∧CX wr w.heap.size all ((K.take k).map bareCel)) (fun _ i _=>K.length-(intOf i).toNat)
 case atStart=>exact⟨0,Nat.zero_le _,rfl,Below.refl _ _,Hq _ _⟩
 case round=>
  obtain⟨k,hk,rfl,hbel,hacc⟩:=hrel
  have HB:=AA hbel
  have HA:=AA hacc
  have hsz:=hbel.size
  by_cases hlt:k<K.length
  ·have ha:K[k]?=some K[k]:=List.getElem?_eq_getElem hlt
   generalize K[k]=a at *
   have HT:Hid ((K.take (k+1)).map bareCel=(K.take k).map bareCel++[bareCel a]):=AA (by rw[List.take_add_one,ha,List.map_append];rfl)
   have HN:Hid (((K.take k).map bareCel).length=k):=AA (by simp;omega)
   obtain⟨A2,c2,hv,_,_,hr⟩:=(HO.out.on hbel).reads
   obtain⟨rfl,_,rfl⟩:A=A2∧True∧c=c2:=by simpa using hv
   obtain⟨g,rfl, -,hg,x0,x1,x2⟩:=hr k a ha
   obtain⟨A3,c3,rfl, -, -, -⟩:=hacc.reads
   generalize(K.take k).map bareCel=acc at *
   clear ha hr hv hbel hacc
   go_wp2_with fail
   refine(QFQ a _).mono ?_
   rintro e w1 ⟨rfl,hb⟩
   have HB1:=AA ((HB.out.alloc hsz _).trans (hb.mono (by simp;omega)))
   have HA1:=AA (AW (P:=fun _=>False) HA.out (AG.of (((Below.refl wr.heap.size wr).alloc (Nat.le_refl _) _).trans (hb.mono (by simp)))) (fun _ _=>id))
   have hsz1:=HB1.out.size
   have hk1:=hlt
   clear hb
   go_wp2_with (at_builtin;refine wpList_append_own _ rfl (.tmp 14) (.tmp 18) 23 rfl w.heap.size 48 i0 (.agg #[.string ⟨#[]⟩,.int .i64 0,.int .i64 0]) 3 32 Tryz.underlying23 HZ.out.1 HZ.out.2.1 HZ.out.2.2.1 HZ.out.2.2.2 rfl (by decide) _ acc.length (acc.flatMap Bd) rfl ?dO ⟨w1.heap.size,0,none⟩ 1 1 (Bd (bareCel a)) (by rfl) (by rfl) ?d1 ?d2 ?d3 ?d4 ?d5 ?_)
   case dO=>exact AW (P:=fun _=>False) HA1.out (AG.of ((Below.refl w1.heap.size w1).alloc (Nat.le_refl _) _)) (fun _ _=>id)
   case d1=>exact World.news_of_block (cs:=(Bd (bareCel a)).toArray) (alloc_at rfl)
   case d2=>exact Ol _
   case d3=>rw[HN.out];unfold maxLen;omega
   case d4=>rw[HN.out];omega
   case d5=>simp;omega
   intro v5 w5 hown5 hgrow5 _
   have HB5:Hid (Below w.heap.size w w5):=AA ((HB1.out.alloc hsz1 _).grown hgrow5 (by simp;omega) (fun q hq=>(AM HA1.out q hq).1))
   have HA5:Hid (CX w5 w.heap.size v5 (acc++[bareCel a])):=AA (by
    unfold CX
    rw[List.length_append]
    simpa using hown5)
   obtain⟨A5,n5,c5,rfl⟩:∃A n c,v5=.slice A n c:=by
    obtain⟨A,c,hv,_⟩:=AX hown5
    exact⟨A,_,c,hv⟩
   clear hown5 hgrow5
   go_wp2_with fail
   go_roundw
   case rel=>exact⟨k+1,by omega,by go_num,HB5.out,by rw[HT.out];exact HA5.out⟩
   case measure=>simp[intOf];omega
  ·have hkk:K.take k=K:=List.take_of_length_le (by omega)
   rw[hkk]at HA
   clear hbel hacc
   go_wp2_with fail
   go_ret
   exact⟨_,rfl,HA.out,HB.out⟩
set_option maxRecDepth 100000 in
set_option maxHeartbeats 2000000 in
theorem Tz {K:List Cel} {v:Value} {w:World} {B:Nat} (h:CX w B v K) (hl:K.length≤10000):
  Calls Tryz.prog 37 #[v] w (fun e w'=>∃u,e=.returned u∧CX w' w.heap.size u (K.map bareCel)∧Below w.heap.size w w'):=by
 have HC:=AA (QFR h hl)
 clear h
 go_enter Tryz.func37,Tryz.ntmps37
 go_wp2_with fail
 refine HC.out.mono ?_
 rintro e w1 ⟨u,rfl,ho,hb⟩
 have HB:=AA hb
 have HO:=AA ho
 obtain⟨A,c,rfl, -, -, -⟩:=ho.reads
 clear hb ho
 go_wp2_with fail
 go_ret
 have h9:=HO.out
 rw[List.length_map]at h9
 exact⟨_,rfl,h9,HB.out⟩
set_option maxRecDepth 100000 in
set_option maxHeartbeats 4000000 in
theorem UA (p:Bool) {v1 v2:Value} {L M:List Cel} {w:World} {B B':Nat} (h1:CX w B v1 L) (h2:CX w B' v2 M) (hl:L.length≤10000):
  Calls Tryz.prog 30 #[v1,v2,.bool p] w (T9 (Ad (B8 p) L M) w):=by
 obtain⟨A,c,rfl,hc,_,hr1⟩:=h1.reads
 obtain⟨A',c',rfl,hc',_,hr2⟩:=h2.reads
 have HR1:=AA hr1
 have HR2:=AA hr2
 clear hr1 hr2 h1 h2
 by_cases hL:L.length=M.length
 ·rw[←hL]
  have HL:=AA hL
  have hkM:∀k,k<L.length→k<M.length:=by rw[hL];exact fun _ h=>h
  have HM:=AA hkM
  clear hL hkM
  go_enter Tryz.func30,Tryz.ntmps30
  go_wp2_with fail
  go_loopw [7] (fun i wr=>∃k n:Nat,k≤L.length∧i=.int .i64 k∧wr=w.drewN n∧Ad (B8 p) (L.take k) (M.take k)=true) (fun i _=>L.length-(intOf i).toNat)
  case atStart=>exact⟨0,0,Nat.zero_le _,rfl,rfl,rfl⟩
  case round=>
   obtain⟨k,n,hk,rfl,rfl,hs⟩:=hrel
   have HS:=AA hs
   clear hs
   by_cases hlt:k<L.length
   ·have hkm:=HM.out k hlt
    have ha:L[k]?=some L[k]:=List.getElem?_eq_getElem hlt
    have hb:M[k]?=some (M[k]'hkm):=List.getElem?_eq_getElem hkm
    generalize L[k]=a at *
    generalize M[k]'hkm=b at *
    obtain⟨g,rfl,_,hg,x0,x1,x2⟩:=HR1.out k a ha
    obtain⟨g',rfl,_,hg',y0,y1,y2⟩:=HR2.out k b hb
    have HN:=AA (fun h=>DN (q:=B8 p) ha hb h)
    have HY:=AA (CB (q:=B8 p) ha hb)
    clear ha hb
    cases e1:(a.name==b.name)with
    |false=>
     have HQ:Hid (B8 p a b=false):=AA (by unfold B8;simp at e1;simp[e1])
     go_wp2_with fail
     go_quiet (fail)
     go_wp2_with fail
     go_ret
     exact⟨AH (HN.out HQ.out).symm,Iy _ _ _⟩
    |true=>
     cases e2:(a.n != b.n)with
     |true=>
      have HQ:Hid (B8 p a b=false):=AA (by unfold B8;simp at e2;simp[e2])
      go_wp2_with fail
      go_quiet (fail)
      go_wp2_with fail
      go_ret
      exact⟨AH (HN.out HQ.out).symm,Iy _ _ _⟩
     |false=>
      cases p with
      |false=>
       have HQ:Hid (B8 false a b=true):=AA (by unfold B8;simp at e1 e2;simp[e1,e2])
       go_wp2_with fail
       go_quiet (fail)
       go_wp2_with fail
       go_roundw
       case rel=>exact⟨k+1,_,by omega,by go_num,rfl,by rw[HY.out,HS.out,HQ.out];rfl⟩
       case measure=>simp[intOf];omega
      |true=>
       cases e3:(a.pl != b.pl)with
       |true=>
        have HQ:Hid (B8 true a b=false):=AA (by unfold B8;simp at e3;simp[e3])
        go_wp2_with fail
        go_quiet (fail)
        go_wp2_with fail
        go_ret
        exact⟨AH (HN.out HQ.out).symm,Iy _ _ _⟩
       |false=>
        have HQ:Hid (B8 true a b=true):=AA (by unfold B8;simp at e1 e2 e3;simp[e1,e2,e3])
        go_wp2_with fail
        go_quiet (fail)
        go_wp2_with fail
        go_roundw
        case rel=>exact⟨k+1,_,by omega,by go_num,rfl,by rw[HY.out,HS.out,HQ.out];rfl⟩
        case measure=>simp[intOf];omega
   ·have HQ:=AA (Cf (by omega) HL.out HS.out)
    go_wp2_with fail
    go_ret
    exact⟨AH HQ.out.symm,⟨_,rfl⟩⟩
 ·have HQ:=AA (Ce (q:=B8 p) hL)
  have hd:((L.length:Int) != (M.length:Int))=true:=by simp;omega
  clear hL
  go_enter Tryz.func30,Tryz.ntmps30
  go_wp2_with fail
  go_ret
  exact⟨AH HQ.out.symm,⟨0,rfl⟩⟩
end Go.Proofs.YthfkpalfopdmhaaGreatDoor

/- Texts of the walk, packed. -/
import Derived.Test.YthfkpalfopdmhaaGreatDoorX39
import Derived.Test.YthfkpalfopdmhaaGreatDoorX40
import Derived.Test.YthfkpalfopdmhaaGreatDoorX22
import Derived.Test.YthfkpalfopdmhaaGreatDoorX17
import Derived.Test.YthfkpalfopdmhaaGreatDoorX34
import Derived.Test.YthfkpalfopdmhaaGreatDoorX00
namespace Go.Proofs.YthfkpalfopdmhaaGreatDoor
open Go.RowKit
def FI (c:Cel):Prop:=c.name.length≤100000
def D9 (t:Thr):Prop:=t.name.length≤100000∧(∀r∈t.regs,r.length≤100000)∧t.regs.length≤10000∧(∀x∈t.body,GW x)∧t.body.length≤10000
def Jo (c:Clm):Prop:=Fa c.e∧c.e.length≤10000
structure IL (p:Prg):Prop where
 nl:p.lines.length≤10000
 lines:∀l∈p.lines,l.length≤10000∧∀c∈l,FI c
 nv:p.vols.length≤10000
 vols:∀c∈p.vols,FI c
 nk:p.locks.length≤10000
 locks:∀c∈p.locks,FI c
 nt:p.threads.length≤10000
 threads:∀t∈p.threads,D9 t
 nr:p.recs.length≤10000
 recs:∀t∈p.recs,D9 t
 nc:p.claims.length≤10000
 claims:∀c∈p.claims,Jo c
theorem Tt (l:List UInt8) (w:World) (h:l.length≤100000):Calls Tryz.prog 103 #[.string ⟨l.toArray⟩] w (AN (nameB l) w):=by
 have:=name_any ⟨l.toArray⟩ w (by show l.toArray.size≤_;simpa using h)
 rwa [show(ByteArray.mk l.toArray).data.toList=l from by simp]at this
set_option maxHeartbeats 1000000 in
theorem Tu (n:Int) (w:World):Calls Tryz.prog 104 #[.int .i64 n] w (AN (Le n) w):=by
 go_enter Tryz.func104,Tryz.ntmps104;go_wp2_with fail
 all_goals
  go_ret;exact⟨AH (by simp_all [Le];try omega),Below.refl _ _⟩
set_option maxRecDepth 100000 in
set_option maxHeartbeats 2000000 in
theorem XK (c:Cel) (w:World) (h:FI c):Calls Tryz.prog 45 #[.agg #[.string ⟨c.name.toArray⟩,.int .i64 c.n,.int .i64 c.pl]] w (AN (Aw most32 c) w):=by
 obtain⟨name,n,pl⟩:=c;have HC:=AA (Tt name (w.alloc (.cells #[.string ⟨name.toArray⟩,.int .i64 n,.int .i64 pl] 48)) h);have HB0:Hid (Below w.heap.size w (w.alloc (.cells #[.string ⟨name.toArray⟩,.int .i64 n,.int .i64 pl] 48))):=AA ((Below.refl _ _).alloc (Nat.le_refl _) _);have x0:(w.alloc (.cells #[.string ⟨name.toArray⟩,.int .i64 n,.int .i64 pl] 48)).cell? ⟨w.heap.size,0,none⟩=some (.string ⟨name.toArray⟩):=by simp
 have hB:Aw most32 ⟨name,n,pl⟩=(nameB name&&(decide (0≤n)&&(decide (n≤4294967296)&&Le pl))):=by unfold Aw most32;simp only[Bool.and_assoc]
 have HBB:=AA hB;clear h x0 hB;go_enter Tryz.func45,Tryz.ntmps45;go_wp2_with fail
 refine HC.out.mono ?_;rintro e w1 ⟨rfl,hb1⟩;have hW:w.heap.size<(w.alloc (.cells #[.string ⟨name.toArray⟩,.int .i64 n,.int .i64 pl] 48)).heap.size:=by simp
 have z1:w1.cell? ⟨w.heap.size,1,none⟩=some (.int .i64 n):=by rw[hb1.cell (p:=⟨w.heap.size,1,none⟩) hW];simp
 have z2:w1.cell? ⟨w.heap.size,2,none⟩=some (.int .i64 pl):=by rw[hb1.cell (p:=⟨w.heap.size,2,none⟩) hW];simp
 have hl1:w.heap.size<w1.heap.size:=Nat.lt_of_lt_of_le hW hb1.size;have HB1:=AA (HB0.out.trans (hb1.mono HB0.out.size));clear hb1 hW;cases h1:nameB name with
 |false=>
  have HE:Hid (Aw most32 ⟨name,n,pl⟩=false):=AA (by rw[HBB.out,h1];rfl);clear h1;go_wp2_with fail
  go_ret;exact⟨AH HE.out.symm,HB1.out⟩
 |true=>
  by_cases h2:0≤n
  ·by_cases h3:n≤4294967296
   ·have HE:Hid (Aw most32 ⟨name,n,pl⟩=Le pl):=AA (by rw[HBB.out,h1];simp[h2,h3]);have d2:decide (0≤n)=true:=by simp[h2]
    have d3:decide (n≤4294967296)=true:=by simp[h3]
    clear h1;go_wp2_with fail
    refine(Tu pl w1).mono ?_;rintro e w2 ⟨rfl,hb2⟩;have HB2:=AA (AC HB1.out hb2);clear hb2;go_wp2_with fail
    go_ret;exact⟨AH (by rw[HE.out]),HB2.out⟩
   ·have HE:Hid (Aw most32 ⟨name,n,pl⟩=false):=AA (by rw[HBB.out,h1];simp[h3]);clear h1;go_wp2_with fail
    go_ret;exact⟨AH HE.out.symm,HB1.out⟩
  ·have HE:Hid (Aw most32 ⟨name,n,pl⟩=false):=AA (by rw[HBB.out,h1];simp[h2]);clear h1;go_wp2_with fail
   go_ret;exact⟨AH HE.out.symm,HB1.out⟩
theorem QD0 (c:Cel):Aw 0 c=(Aw most32 c&&(c.n==0)):=by
 unfold Aw most32;cases nameB c.name<;>cases Le c.pl<;>simp;rw[Bool.eq_iff_iff];simp;omega
set_option maxRecDepth 100000 in
set_option maxHeartbeats 2000000 in
theorem QFE (c:Cel) (w:World) (h:FI c):Calls Tryz.prog 46 #[.agg #[.string ⟨c.name.toArray⟩,.int .i64 c.n,.int .i64 c.pl]] w (AN (Aw 0 c) w):=by
 have HLE:=AA (QD0 c);obtain⟨q,hq⟩:∃q,Aw most32 c=q:=⟨_,rfl⟩
 have HC:=AA (XK c (w.alloc (.cells #[.string ⟨c.name.toArray⟩,.int .i64 c.n,.int .i64 c.pl] 48)) h);rw[hq]at HC HLE;have HB0:Hid (Below w.heap.size w (w.alloc (.cells #[.string ⟨c.name.toArray⟩,.int .i64 c.n,.int .i64 c.pl] 48))):=AA ((Below.refl _ _).alloc (Nat.le_refl _) _);have hW:w.heap.size<(w.alloc (.cells #[.string ⟨c.name.toArray⟩,.int .i64 c.n,.int .i64 c.pl] 48)).heap.size:=by simp
 clear h hq;go_enter Tryz.func46,Tryz.ntmps46;go_wp2_with fail
 refine HC.out.mono ?_;rintro e w1 ⟨rfl,hb1⟩;have z1:w1.cell? ⟨w.heap.size,1,none⟩=some (.int .i64 c.n):=by rw[hb1.cell (p:=⟨w.heap.size,1,none⟩) hW];simp
 have hl1:w.heap.size<w1.heap.size:=Nat.lt_of_lt_of_le hW hb1.size;have HB1:=AA (HB0.out.trans (hb1.mono HB0.out.size));clear hb1 hW;cases q with
 |false=>
  go_wp2_with fail
  go_ret;exact⟨AH (by rw[HLE.out];rfl),HB1.out⟩
 |true=>
  go_wp2_with fail
  go_ret;exact⟨AH (by rw[HLE.out];simp),HB1.out⟩
theorem JE {F:Nat} {fn:Func} {c:Code} (hf:Tryz.prog.funcs[F]?=some fn) (hname:(fn.name== "runtime.NumGoroutine")=false) (hb:fn.body=some c):Enters F:=fun a w=>enters_of hf hname hb a w
set_option maxRecDepth 100000 in
set_option maxHeartbeats 2000000 in
theorem QFF {l:List Cel} {v:Value} {w:World} {B:Nat} (h:CX w B v l) (hl:l.length≤10000) (hs:∀c∈l,FI c):Calls Tryz.prog 43 #[v] w (AN (EC l) w):=by
 have HE:=AA (Tq (JE Tryz.func45 (by kernel_rfl) rfl) (Aw most32) h (by omega) (fun x hx w' _=>XK x w' (hs x hx)));obtain⟨A,c,rfl, -, -, -⟩:=h.reads;clear h hs;cases l with
 |nil=>
  go_enter Tryz.func43,Tryz.ntmps43;go_wp2_with fail
  go_ret;exact⟨rfl,Below.refl _ _⟩
 |cons a l=>
  obtain⟨n,hn⟩:∃n,(a::l).length=n:=⟨_,rfl⟩
  have hn0:(0:Int)<(n:Int):=by rw[←hn];simp
  rw[hn]at HE⊢;have HQ:Hid (EC (a::l)=(a::l).all (fun x=>Aw most32 x)):=AA (by simp[EC]);clear hn;go_enter Tryz.func43,Tryz.ntmps43;go_wp2_with fail
  refine HE.out.mono ?_;rintro e w1 ⟨rfl,hb⟩;have HB:=AA hb;clear hb;go_wp2_with fail
  go_ret;exact⟨AH (by rw[HQ.out];rfl),HB.out⟩
structure QD1 (w:World) (b:Nat) (x0 x1 x2 x3:Value):Prop where
 lt:b<w.heap.size
 c0:w.cell? ⟨b,0,none⟩=some x0
 c1:w.cell? ⟨b,1,none⟩=some x1
 c2:w.cell? ⟨b,2,none⟩=some x2
 c3:w.cell? ⟨b,3,none⟩=some x3
theorem LD (w:World) (x0 x1 x2 x3:Value) (T:TypeId):QD1 (w.alloc (.cells #[x0,x1,x2,x3] T)) w.heap.size x0 x1 x2 x3:=⟨by simp,by simp,by simp,by simp,by simp⟩
theorem QD1.on {w w':World} {b:Nat} {x0 x1 x2 x3:Value} (h:QD1 w b x0 x1 x2 x3) (hb:Below w.heap.size w w'):QD1 w' b x0 x1 x2 x3:=by
 obtain⟨l,c0,c1,c2,c3⟩:=h;have e:∀j,w'.cell? ⟨b,j,none⟩=w.cell? ⟨b,j,none⟩:=fun j=>hb.cell (p:=⟨b,j,none⟩) l
 exact⟨Nat.lt_of_lt_of_le l hb.size,by rw[e,c0],by rw[e,c1],by rw[e,c2],by rw[e,c3]⟩
def Oa (t:Thr):Bool:=t.regs.all nameB&&(CH t.body&&Le t.pl)
theorem QCC (b:Bool) (t:Thr):Bh b t=((if b then nameB t.name else t.name.isEmpty)&&Oa t):=by
 unfold Bh Oa;cases t.regs.all nameB<;>cases CH t.body<;>cases Le t.pl<;>simp
set_option maxRecDepth 100000 in
set_option maxHeartbeats 4000000 in
theorem X2 {x:Tv} {w:World} {B:Nat} (hR:C9 w B x.vR x.t.regs) (hB:Fh w B x.vB x.t.body) (hs:D9 x.t) (ht:Tabs w):
  Calls Tryz.prog 107 #[.agg #[.string ⟨x.t.name.toArray⟩,x.vR,x.vB,.int .i64 x.t.pl]] w (AN (Oa x.t) w):=by
 obtain⟨AR,cR,hvR, -, -, -⟩:=hR.reads;obtain⟨AB,cB,hvB⟩:=hB.slice;obtain⟨t,vR,vB⟩:=x;simp only at hR hB hs hvR hvB⊢;subst hvR hvB;have HBX:=AA (LD w (.string ⟨t.name.toArray⟩) (.slice AR t.regs.length cR) (.slice AB t.body.length cB) (.int .i64 t.pl) 41);have HB0:Hid (Below w.heap.size w (w.alloc (.cells #[.string ⟨t.name.toArray⟩,.slice AR t.regs.length cR,.slice AB t.body.length cB,.int .i64 t.pl] 41))):=AA ((Below.refl _ _).alloc (Nat.le_refl _) _);have HR:=AA (QDz (JE Tryz.func103 (by kernel_rfl) rfl) nameB (hR.on HB0.out) (by have:=hs.2.2.1;omega) (fun x hx w' _=>Tt x w' (hs.2.1 x hx)));have HS:=AA hB
 have HSM:=AA hs;have HT:=AA ht;obtain⟨q1,hq1⟩:∃q,t.regs.all nameB=q:=⟨_,rfl⟩
 obtain⟨q2,hq2⟩:∃q,CH t.body=q:=⟨_,rfl⟩
 have HQ1:=AA hq1;have HQ2:=AA hq2;have HRQ:Hid (Calls Tryz.prog 154 #[.slice AR t.regs.length cR,.func (.func 103) #[] #[]] (w.alloc (.cells #[.string ⟨t.name.toArray⟩,.slice AR t.regs.length cR,.slice AB t.body.length cB,.int .i64 t.pl] 41)) (AN q1 (w.alloc (.cells #[.string ⟨t.name.toArray⟩,.slice AR t.regs.length cR,.slice AB t.body.length cB,.int .i64 t.pl] 41)))):=AA (by rw[←hq1];exact HR.out);clear hR hB hs ht hq1 hq2 HR;go_enter Tryz.func107,Tryz.ntmps107;go_wp2_with fail
 obtain⟨b,hb⟩:∃b,w.heap.size=b:=⟨_,rfl⟩
 rw[hb]at HBX⊢;generalize w.alloc (.cells #[.string ⟨t.name.toArray⟩,.slice AR t.regs.length cR,.slice AB t.body.length cB,.int .i64 t.pl] 41)=W at *;refine HRQ.out.mono ?_;rintro e w1 ⟨rfl,hb1⟩;have HB1:=AA (HB0.out.trans (hb1.mono HB0.out.size));obtain⟨l1, -, -,z2,z3⟩:=HBX.out.on hb1;have HBX1:=AA (HBX.out.on hb1);clear hb1 hb;cases q1 with
 |false=>
  go_wp2_with fail
  go_ret;exact⟨AH (by unfold Oa;rw[HQ1.out];rfl),HB1.out⟩
 |true=>
  have HCB:Hid (Calls Tryz.prog 155 #[.slice AB t.body.length cB] w1 (AN q2 w1)):=AA (by rw[←HQ2.out];exact Pz _ _ w1 (HS.out.read.on HB1.out) HSM.out.2.2.2.1 (HT.out.on HB1.out));go_wp2_with fail
  refine HCB.out.mono ?_;rintro e w2 ⟨rfl,hb2⟩;have HB2:=AA (AC HB1.out hb2);obtain⟨l2, -, -, -,y3⟩:=HBX1.out.on hb2;clear hb2 z2 z3 l1;cases q2 with
  |false=>
   go_wp2_with fail
   go_ret;exact⟨AH (by unfold Oa;rw[HQ1.out,HQ2.out];rfl),HB2.out⟩
  |true=>
   go_wp2_with fail
   refine(Tu t.pl w2).mono ?_;rintro e w3 ⟨rfl,hb3⟩;have HB3:=AA (AC HB2.out hb3);clear hb3;go_wp2_with fail
   go_ret;exact⟨AH (by unfold Oa;rw[HQ1.out,HQ2.out];rfl),HB3.out⟩
theorem QCJ:(Tryz.prog.info? 44).map (fun i=>(i.zero,i.size,i.bytes))=some (some (.agg #[.int .i64 0,.string ⟨#[]⟩,.string ⟨#[]⟩,.slice none 0 0,.slice none 0 0,.int .i64 0,.int .i64 0,.int .i64 0,.int .i64 0]),9,120):=by kernel_rfl
structure Jp (w:World) (B:Nat) (v:Value) (K:List Sv):Prop where
 row:w.ownsRow B 44 9 v K.length (CC K)
 sub:∀x∈K,CY B w x.vE x.s.e∧CY B w x.vF x.s.f
theorem Jp.keepT {P:Nat→Prop} {w w':World} {B:Nat} {v:Value} {K:List Sv} (h:Jp w B v K) (hk:AG P w w') (ha:Av P w B [44,46]):Jp w' B v K:=
 ⟨Gx h.row hk (ha.sub (by simp)),fun x hx=>⟨(h.sub x hx).1.keepT hk (ha.sub (by simp)),(h.sub x hx).2.keepT hk (ha.sub (by simp))⟩⟩
theorem Jp.on {w w':World} {B:Nat} {v:Value} {K:List Sv} (h:Jp w B v K) (hb:Below w.heap.size w w'):Jp w' B v K:=h.keepT (AG.of hb) Av.none
theorem Jp.reads {w:World} {B:Nat} {v:Value} {K:List Sv} (h:Jp w B v K):∃A c,v=.slice A K.length c∧K.length≤c∧c≤maxLen∧∀i x,K[i]?=some x→∃g,A=some ⟨g,0,none⟩∧B≤g∧g<w.heap.size∧
  w.cell? ⟨g,i*9,none⟩=some (.int .i64 x.s.kind)∧w.cell? ⟨g,i*9+1,none⟩=some (.string ⟨x.s.reg.toArray⟩)∧w.cell? ⟨g,i*9+2,none⟩=some (.string ⟨x.s.name.toArray⟩)∧w.cell? ⟨g,i*9+3,none⟩=some x.vE∧w.cell? ⟨g,i*9+4,none⟩=some x.vF∧
  w.cell? ⟨g,i*9+5,none⟩=some (.int .i64 x.s.n)∧w.cell? ⟨g,i*9+6,none⟩=some (.int .i64 x.s.body)∧w.cell? ⟨g,i*9+7,none⟩=some (.int .i64 x.s.els)∧w.cell? ⟨g,i*9+8,none⟩=some (.int .i64 x.s.pl):=by
 obtain⟨A,c,hv,h1,h2,h3⟩:=AX h.row;refine⟨A,c,hv,h1,h2,fun i x hi=>?_⟩;obtain⟨g,hA,hB,hg,_,hc⟩:=h3 (by have:=(List.getElem?_eq_some_iff.1 hi).1;omega);have hf:∀x,(Be x).length=9:=fun _=>rfl
 exact⟨g,hA,hB,hg,hc _ _ (CV hf K i x 0 _ hi rfl),hc _ _ (CV hf K i x 1 _ hi rfl),hc _ _ (CV hf K i x 2 _ hi rfl),hc _ _ (CV hf K i x 3 _ hi rfl),hc _ _ (CV hf K i x 4 _ hi rfl),hc _ _ (CV hf K i x 5 _ hi rfl),hc _ _ (CV hf K i x 6 _ hi rfl),hc _ _ (CV hf K i x 7 _ hi rfl),hc _ _ (CV hf K i x 8 _ hi rfl)⟩
theorem QD7 {wa w5:World} {B:Nat} {v v5:Value} {K:List Sv} {x:Sv} (h:Jp wa B v K) (hx:CY B wa x.vE x.s.e∧CY B wa x.vF x.s.f) (hg:wa.grownBy w5 v.ownBlock) (hr:w5.ownsRow B 44 9 v5 (K.length+1) (CC K++Be x)):Jp w5 B v5 (K++[x]):=by
 have hA:Av (fun q=>v.ownBlock=some q) wa B [46]:=fun q cs T hB hh hT hP=>by
  obtain⟨_,cs',h'⟩:=AM h.row q hP;rw[h']at hh;simp only[List.mem_singleton]at hT;subst hT;simp at hh
 have hk:AG (fun q=>v.ownBlock=some q) wa w5:=AG.grown hg;refine⟨by rw[List.length_append,E6];simpa[CC]using hr,fun y hy=>?_⟩;rcases List.mem_append.1 hy with hy|hy
 ·exact⟨(h.sub y hy).1.keepT hk hA,(h.sub y hy).2.keepT hk hA⟩
 ·simp at hy;subst hy;exact⟨hx.1.keepT hk hA,hx.2.keepT hk hA⟩
set_option maxRecDepth 100000 in
set_option maxHeartbeats 8000000 in
theorem QFJ {K:List Sv} {v:Value} {w:World} {B:Nat} (h:Jp w B v K) (hl:K.length≤10000) (hs:∀x∈K,x.s.e.length≤10000∧x.s.f.length≤10000):
  Calls Tryz.prog 96 #[v,.func (.func 97) #[] #[]] w (fun e w'=>∃u,e=.returned u∧Fh w' w.heap.size u (K.map (fun x=>bareS x.s))∧Below w.heap.size w w'):=by
 obtain⟨i0,hi0,hz0,hz1,hz2⟩:=info_parts QCJ;have HZ:=AA (show Tryz.prog.info? 44=some i0∧i0.zero=some (.agg #[.int .i64 0,.string ⟨#[]⟩,.string ⟨#[]⟩,.slice none 0 0,.slice none 0 0,.int .i64 0,.int .i64 0,.int .i64 0,.int .i64 0])∧i0.size=9∧i0.bytes=120 from⟨hi0,hz0,hz1,hz2⟩);have HO:=AA h;have HS:=AA hs;obtain⟨A,c,rfl,hc,hm1,hr1⟩:=h.reads;clear hi0 hz0 hz1 hz2 hr1 h hs;go_enter Tryz.func96,Tryz.ntmps96;go_wp2_with fail
 go_loopw [5,10] (fun all i wr=>∃(k:Nat) (K':List Sv),k≤K.length∧i=.int .i64 k∧Below w.heap.size w wr∧Jp wr w.heap.size all K'∧K'.map (·.s)=(K.take k).map (fun x=>bareS x.s)) (fun _ i _=>K.length-(intOf i).toNat)
 case atStart=>exact⟨0,[],Nat.zero_le _,rfl,Below.refl _ _,⟨World.ownsRow_nil _ _ _ _,fun x h=>by cases h⟩,rfl⟩
 case round=>
  obtain⟨k,acc,hk,rfl,hbel,hacc,hmap⟩:=hrel;have HB:=AA hbel;have HA:=AA hacc;have hsz:=hbel.size;by_cases hlt:k<K.length
  ·have ha:K[k]?=some K[k]:=List.getElem?_eq_getElem hlt;have hin:=List.getElem_mem hlt;generalize K[k]=a at *;have HT:Hid ((acc.map (·.s))++[bareS a.s]=(K.take (k+1)).map (fun x=>bareS x.s)):=AA (by rw[List.take_add_one,ha,List.map_append,hmap];rfl);have HN:Hid (acc.length=k):=AA (by have:=congrArg List.length hmap;simp at this;omega);have hA:=(Below.refl wr.heap.size wr).alloc (Nat.le_refl _) (.cells #[.int .i64 a.s.kind,.string ⟨a.s.reg.toArray⟩,.string ⟨a.s.name.toArray⟩,a.vE,a.vF,.int .i64 a.s.n,.int .i64 a.s.body,.int .i64 a.s.els,.int .i64 a.s.pl] 44);have hsub:=(HO.out.on hbel).sub a hin
   have HC:=AA (QFI a.s (hsub.1.rd.on hA) (hsub.2.rd.on hA) (HS.out a hin).1 (HS.out a hin).2);have HAL:=AA hA;obtain⟨A2,c2,hv,_,_,hr⟩:=(HO.out.on hbel).reads;obtain⟨rfl,_,rfl⟩:A=A2∧True∧c=c2:=by simpa using hv
   obtain⟨g,rfl, -,hg,x0,x1,x2,x3,x4,x5,x6,x7,x8⟩:=hr k a ha;obtain⟨AE,cE,eE, -, -, -⟩:=hsub.1.rd;obtain⟨AF,cF,eF, -, -, -⟩:=hsub.2.rd;rw[eE]at x3 HC HAL;rw[eF]at x4 HC HAL;unfold Qs at HC;obtain⟨A3,c3,rfl, -, -, -⟩:=hacc.reads;clear ha hr hv hbel hacc hmap hin eE eF hA hsub;go_wp2_with fail
   refine HC.out.mono ?_;rintro e w1 ⟨u1,u2,rfl,hu1,hu2,hb⟩;have HB1:=AA ((AC HB.out HAL.out).trans (hb.mono (AC HB.out HAL.out).size));have hb2:=AC HAL.out hb;have HA1:=AA (HA.out.on hb2);have hws:=(AC HB.out HAL.out).size;have HU1:=AA (hu1.readE (B':=w.heap.size) hws);have HU2:=AA (hu2.readE (B':=w.heap.size) hws);have hsz1:=HB1.out.size;obtain⟨A1,c1,rfl, -, -, -⟩:=AX hu1;obtain⟨A2,c2,rfl, -, -, -⟩:=AX hu2;generalize(a.s.e.map bareN).length=n1 at *;generalize(a.s.f.map bareN).length=n2 at *;unfold Qs bareS
   dsimp only
   clear hb hb2 hu1 hu2 hws;go_wp2_with (at_builtin;refine wpList_append_own _ rfl (.tmp 14) (.tmp 18) 39 rfl w.heap.size 44 i0 (.agg #[.int .i64 0,.string ⟨#[]⟩,.string ⟨#[]⟩,.slice none 0 0,.slice none 0 0,.int .i64 0,.int .i64 0,.int .i64 0,.int .i64 0]) 9 120 Tryz.underlying39 HZ.out.1 HZ.out.2.1 HZ.out.2.2.1 HZ.out.2.2.2 rfl (by decide) _ acc.length (CC acc) rfl ?dO ⟨w1.heap.size,0,none⟩ 1 1 [.int .i64 a.s.kind,.string ⟨a.s.reg.toArray⟩,.string ⟨a.s.name.toArray⟩,.slice A1 n1 c1,.slice A2 n2 c2,.int .i64 a.s.n,.int .i64 a.s.body,.int .i64 a.s.els,.int .i64 0] (by rfl) (by rfl) ?d1 ?d2 ?d3 ?d4 ?d5 ?_)
   case dO=>exact(HA1.out.on ((Below.refl w1.heap.size w1).alloc (Nat.le_refl _) _)).row
   case d1=>exact World.news_of_block (cs:=#[.int .i64 a.s.kind,.string ⟨a.s.reg.toArray⟩,.string ⟨a.s.name.toArray⟩,.slice A1 n1 c1,.slice A2 n2 c2,.int .i64 a.s.n,.int .i64 a.s.body,.int .i64 a.s.els,.int .i64 0]) (alloc_at rfl)
   case d2=>intro y hy;simp at hy;rcases hy with rfl|rfl|rfl|rfl|rfl|rfl|rfl|rfl|rfl<;>rfl
   case d3=>rw[HN.out];unfold maxLen;omega
   case d4=>rw[HN.out];omega
   case d5=>simp;omega
   intro v5 w5 hown5 hgrow5 _;have HB5:Hid (Below w.heap.size w w5):=AA ((HB1.out.alloc hsz1 _).grown hgrow5 (by simp;omega) (fun q hq=>(AM HA1.out.row q hq).1));have HA5:Hid (Jp w5 w.heap.size v5 (acc++[⟨bareS a.s,.slice A1 n1 c1,.slice A2 n2 c2⟩])):=AA (QD7 (x:=⟨bareS a.s,.slice A1 n1 c1,.slice A2 n2 c2⟩) (HA1.out.on ((Below.refl w1.heap.size w1).alloc (Nat.le_refl _) _)) ⟨HU1.out.on ((Below.refl w1.heap.size w1).alloc (Nat.le_refl _) _),HU2.out.on ((Below.refl w1.heap.size w1).alloc (Nat.le_refl _) _)⟩ hgrow5 hown5);obtain⟨A5,n5,c5,rfl⟩:∃A n c,v5=.slice A n c:=by
    obtain⟨A,c,hv,_⟩:=AX hown5;exact⟨A,_,c,hv⟩
   clear hown5 hgrow5;go_wp2_with fail
   go_roundw;case rel=>exact⟨k+1,_,by omega,by go_num,HB5.out,HA5.out,by rw[←HT.out,List.map_append];rfl⟩
   case measure=>simp[intOf];omega
  ·have hkk:K.take k=K:=List.take_of_length_le (by omega);rw[hkk]at hmap;have HM:=AA hmap;clear hbel hacc hmap hkk;go_wp2_with fail
   go_ret;exact⟨_,rfl,⟨acc,HM.out,HA.out.row,HA.out.sub⟩,HB.out⟩
theorem QD8 {M:List Stm} {v:Value} {w:World} {B:Nat} (h:Fh w B v M) (hl:M.length≤10000) (hs:∀x∈M,x.e.length≤10000∧x.f.length≤10000):
  Calls Tryz.prog 96 #[v,.func (.func 97) #[] #[]] w (fun e w'=>∃u,e=.returned u∧Fh w' w.heap.size u (M.map bareS)∧Below w.heap.size w w'):=by
 obtain⟨K,rfl,hK,hR⟩:=h;have:=QFJ (K:=K) ⟨hK,hR⟩ (by rw[List.length_map]at hl;exact hl) (fun x hx=>hs _ (List.mem_map_of_mem hx));rw[List.map_map];exact this
set_option maxRecDepth 100000 in
set_option maxHeartbeats 2000000 in
theorem QFP (c:Cel) (w:World):Calls Tryz.prog 93 #[.agg #[.string ⟨c.name.toArray⟩,.int .i64 c.n,.int .i64 c.pl]] w (fun e w'=>e=.returned (.agg #[.string ⟨c.name.toArray⟩,.int .i64 c.n,.int .i64 0])∧Below w.heap.size w w'):=by
 go_enter Tryz.func93,Tryz.ntmps93;go_wp2_with fail
 refine bodyPost_ret (v:=.agg #[.string ⟨c.name.toArray⟩,.int .i64 c.n,.int .i64 0]) (by simp[results,Tryz.results93,go_sem]) rfl ?_;refine⟨rfl,?_⟩;repeat(first|exact Below.refl _ _|(refine Below.setCell ?_ (by simp) _)|(refine Below.alloc ?_ (by simp) _))
set_option maxRecDepth 100000 in
set_option maxHeartbeats 8000000 in
theorem QFQ {K:List Cel} {v:Value} {w:World} {B:Nat} (h:CX w B v K) (hl:K.length≤10000):
  Calls Tryz.prog 92 #[v,.func (.func 93) #[] #[]] w (fun e w'=>∃u,e=.returned u∧CX w' w.heap.size u (K.map bareCel)∧Below w.heap.size w w'):=by
 obtain⟨i0,hi0,hz0,hz1,hz2⟩:=info_parts On;have HZ:=AA (show Tryz.prog.info? 48=some i0∧i0.zero=some (.agg #[.string ⟨#[]⟩,.int .i64 0,.int .i64 0])∧i0.size=3∧i0.bytes=32 from⟨hi0,hz0,hz1,hz2⟩);have HO:=AA h;obtain⟨A,c,rfl,hc,hm1,hr1⟩:=h.reads;clear hi0 hz0 hz1 hz2 hr1 h;go_enter Tryz.func92,Tryz.ntmps92;go_wp2_with fail
 go_loopw [5,10] (fun all i wr=>∃k:Nat,k≤K.length∧i=.int .i64 k∧Below w.heap.size w wr∧CX wr w.heap.size all ((K.take k).map bareCel)) (fun _ i _=>K.length-(intOf i).toNat)
 case atStart=>exact⟨0,Nat.zero_le _,rfl,Below.refl _ _,Ht _ _⟩
 case round=>
  obtain⟨k,hk,rfl,hbel,hacc⟩:=hrel;have HB:=AA hbel;have HA:=AA hacc;have hsz:=hbel.size;by_cases hlt:k<K.length
  ·have ha:K[k]?=some K[k]:=List.getElem?_eq_getElem hlt;generalize K[k]=a at *;have HT:Hid ((K.take (k+1)).map bareCel=(K.take k).map bareCel++[bareCel a]):=AA (by rw[List.take_add_one,ha,List.map_append];rfl);have HN:Hid (((K.take k).map bareCel).length=k):=AA (by simp;omega);obtain⟨A2,c2,hv,_,_,hr⟩:=(HO.out.on hbel).reads;obtain⟨rfl,_,rfl⟩:A=A2∧True∧c=c2:=by simpa using hv
   obtain⟨g,rfl, -,hg,x0,x1,x2⟩:=hr k a ha;obtain⟨A3,c3,rfl, -, -, -⟩:=hacc.reads;generalize(K.take k).map bareCel=acc at *;clear ha hr hv hbel hacc;go_wp2_with fail
   refine(QFP a _).mono ?_;rintro e w1 ⟨rfl,hb⟩;have HB1:=AA ((HB.out.alloc hsz _).trans (hb.mono (by simp;omega)));have HA1:=AA (AW (P:=fun _=>False) HA.out (AG.of (((Below.refl wr.heap.size wr).alloc (Nat.le_refl _) _).trans (hb.mono (by simp)))) (fun _ _=>id));have hsz1:=HB1.out.size;have hk1:=hlt;clear hb
   go_wp2_with (at_builtin;refine wpList_append_own _ rfl (.tmp 14) (.tmp 18) 23 rfl w.heap.size 48 i0 (.agg #[.string ⟨#[]⟩,.int .i64 0,.int .i64 0]) 3 32 Tryz.underlying23 HZ.out.1 HZ.out.2.1 HZ.out.2.2.1 HZ.out.2.2.2 rfl (by decide) _ acc.length (acc.flatMap Bd) rfl ?dO ⟨w1.heap.size,0,none⟩ 1 1 (Bd (bareCel a)) (by rfl) (by rfl) ?d1 ?d2 ?d3 ?d4 ?d5 ?_)
   case dO=>exact AW (P:=fun _=>False) HA1.out (AG.of ((Below.refl w1.heap.size w1).alloc (Nat.le_refl _) _)) (fun _ _=>id)
   case d1=>exact World.news_of_block (cs:=(Bd (bareCel a)).toArray) (alloc_at rfl)
   case d2=>exact Oo _
   case d3=>rw[HN.out];unfold maxLen;omega
   case d4=>rw[HN.out];omega
   case d5=>simp;omega
   intro v5 w5 hown5 hgrow5 _;have HB5:Hid (Below w.heap.size w w5):=AA ((HB1.out.alloc hsz1 _).grown hgrow5 (by simp;omega) (fun q hq=>(AM HA1.out q hq).1));have HA5:Hid (CX w5 w.heap.size v5 (acc++[bareCel a])):=AA (by
    unfold CX;rw[List.length_append];simpa using hown5)
   obtain⟨A5,n5,c5,rfl⟩:∃A n c,v5=.slice A n c:=by
    obtain⟨A,c,hv,_⟩:=AX hown5;exact⟨A,_,c,hv⟩
   clear hown5 hgrow5;go_wp2_with fail
   go_roundw;case rel=>exact⟨k+1,by omega,by go_num,HB5.out,by rw[HT.out];exact HA5.out⟩
   case measure=>simp[intOf];omega
  ·have hkk:K.take k=K:=List.take_of_length_le (by omega);rw[hkk]at HA;clear hbel hacc;go_wp2_with fail
   go_ret;exact⟨_,rfl,HA.out,HB.out⟩
set_option maxRecDepth 100000 in
set_option maxHeartbeats 2000000 in
theorem T8 {K:List Cel} {v:Value} {w:World} {B:Nat} (h:CX w B v K) (hl:K.length≤10000):
  Calls Tryz.prog 37 #[v] w (fun e w'=>∃u,e=.returned u∧CX w' w.heap.size u (K.map bareCel)∧Below w.heap.size w w'):=by
 have HC:=AA (QFQ h hl);clear h;go_enter Tryz.func37,Tryz.ntmps37;go_wp2_with fail
 refine HC.out.mono ?_;rintro e w1 ⟨u,rfl,ho,hb⟩;have HB:=AA hb;have HO:=AA ho;obtain⟨A,c,rfl, -, -, -⟩:=ho.reads;clear hb ho;go_wp2_with fail
 go_ret;have h9:=HO.out;rw[List.length_map]at h9;exact⟨_,rfl,h9,HB.out⟩
end Go.Proofs.YthfkpalfopdmhaaGreatDoor

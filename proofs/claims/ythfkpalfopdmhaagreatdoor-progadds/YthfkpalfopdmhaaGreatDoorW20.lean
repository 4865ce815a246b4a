/- Texts of the walk, packed. -/
import Derived.Test.YthfkpalfopdmhaaGreatDoorW19
import Derived.Test.YthfkpalfopdmhaaGreatDoorW15
import Derived.Test.YthfkpalfopdmhaaGreatDoorW03
import Derived.Test.YthfkpalfopdmhaaGreatDoorW17
import Derived.Test.YthfkpalfopdmhaaGreatDoorW16
import Derived.Test.YthfkpalfopdmhaaGreatDoorW00
namespace Go.Proofs.YthfkpalfopdmhaaGreatDoor
open Go.RowKit
def I5 (L:List Stm):Prop:=∀x∈L,0<x.kind/\x.kind<15
theorem QBz {L:List Stm} (h:L.all EY=true):I5 L:=by
 intro x hx;have:=List.all_eq_true.1 h x hx;unfold EY at this;simp only[Bool.and_eq_true,decide_eq_true_eq]at this;omega
def QB0 (n:Nat):Prop:=∀(t:Bk) (v:Value) (w:World),t.count=n->n<=40->t.fit->I5 t.flat->BG w v t.flat->Tabs w->Calls Tryz.prog 198 #[v] w (L6 t.deep w)
theorem Wz {s:Stm} {b e r:Bk} (h:I5 (Bk.cons s b e r).flat):(0<s.kind/\s.kind<15)/\I5 b.flat/\I5 e.flat/\I5 r.flat:=by
 unfold Bk.flat at h;refine⟨h s (List.mem_cons_self ..),fun x hx=>h x ?_,fun x hx=>h x ?_,fun x hx=>h x ?_⟩
 ·exact List.mem_cons_of_mem _ (List.mem_append_left _ hx)
 ·exact List.mem_cons_of_mem _ (List.mem_append_right _ (List.mem_append_left _ hx))
 ·exact List.mem_cons_of_mem _ (List.mem_append_right _ (List.mem_append_right _ hx))
theorem Zp (s:Stm) (b e r:Bk) (q:Nat):max q (Bk.cons s b e r).deep=max (if Hq s.kind then max q (max (b.deep+1) (e.deep+1))else q) r.deep:=by
 simp only[Bk.deep];by_cases h:Hq s.kind
 ·rw[if_pos h,if_pos h];omega
 ·rw[if_neg h,if_neg h];omega
set_option maxRecDepth 100000 in
set_option maxHeartbeats 8000000 in
theorem W6 (n:Nat) (ih:∀m,m<n->QB0 m):QB0 n:=by
 intro t v w hn h40 hfit hkind h ht;subst hn;have HL:=AA h;have IH:=AA ih;have HT:=AA ht;have HFT:=AA hfit;have HKD:=AA hkind;clear ih ht hfit hkind;obtain⟨A,c,rfl,_⟩:=h;obtain⟨R,hR⟩:∃R,t.deep=R:=⟨_,rfl⟩
 rw[hR];have HV:=AA hR;have HLE:=AA (JI t);have hRl:R<=t.count:=by rw[<-hR];exact HLE.out
 clear hR;go_enter Tryz.func198,Tryz.ntmps198;go_wp2_with fail
 go_loopw [0,3] (fun v d wr=>∃(t':Bk) (q:Nat),BG wr v t'.flat/\d=.int .i64 q/\max q t'.deep=R/\t'.fit/\I5 t'.flat/\t'.count<=t.count/\Below w.heap.size w wr) (fun v _ _=>lenV v)
 case atStart=>exact⟨t,0,HL.out,rfl,by rw[<-HV.out];simp,HFT.out,HKD.out,Nat.le_refl _,Below.refl _ _⟩
 case round=>
  obtain⟨t',q,hr,rfl,hq,hf,hkd,hct,hb⟩:=hrel;have HM:=AA hr;have HQ:=AA hq;have HF:=AA hf;have HK:=AA hkd;have HB:=AA hb;have HTR:=AA (HT.out.on hb);have hqR:q<=40:=by omega
  clear hf hb hkd hq;obtain⟨A',c',rfl,hc',hm',hr⟩:=hr;cases t' with
  |nil=>
   have HN:Hid (q=R):=AA (by have:=HQ.out;simp only[Bk.deep]at this;omega);clear hr;go_wp2_with fail
   go_ret;exact⟨J1 (by rw[HN.out]),HB.out⟩
  |cons s b e r=>
   obtain⟨p1,p2,p3,p4⟩:=MD s b e r HF.out;have P1:=AA p1;have P2:=AA p2;have P3:=AA p3;have P4:=AA p4;have hfl:(Bk.cons s b e r).flat=s::(b.flat++(e.flat++r.flat)):=rfl;have hln:(b.flat++(e.flat++r.flat)).length=b.count+e.count+r.count:=by simp only[List.length_append,BV];omega
   have hcc:b.count+e.count+r.count+1<=t.count:=hct;clear p1 p2 p3 p4 hct;rw[hfl]at HM hr hc'⊢;obtain⟨g,o,AE,nE,cE,AF,nF,cF,rfl,h9⟩:=hr 0 s rfl;have H9:=AA h9;clear hr h9;obtain⟨⟨k1,k2⟩,kb,ke,kr⟩:=Wz HK.out;have KB:=AA kb;have KE:=AA ke;have KR:=AA kr;clear kb ke kr;have HD:=AA (Zp s b e r q);obtain⟨n,hn⟩:∃n:Nat,s.kind=n:=⟨s.kind.toNat,by omega⟩
   have HBK:Hid (Ie n 98=decide (Hq s.kind)):=AA (by rw[<-hn];exact YJ k1 k2);have hn15:n<15:=by omega
   have HNK:=AA hn;clear hn;have hlr:(s::(b.flat++(e.flat++r.flat))).length=(b.count+e.count+r.count)+1:=by rw[List.length_cons,hln]
   rw[hlr]at hc'⊢;go_wp2_with fail
   refine(LA _ s (b.flat++(e.flat++r.flat)) _ (by have:=HM.out;rwa [hlr]at this) P1.out (by omega)).mono ?_;rw[P2.out,P3.out,P4.out];rintro e2 w2 ⟨v1,v2,v3,rfl,r1,r2,r3,hb2⟩;have R1:=AA r1;have R2:=AA r2;have R3:=AA r3;have HB2:=AA hb2;have HT2:=AA (HTR.out.on hb2);have hcl:=HT2.out.own hn15;have htl:=HT2.out.lt;obtain⟨lt9,x0,_⟩:=H9.out.on hb2;rw[HNK.out]at x0;simp only[Nat.zero_mul,Nat.add_zero]at x0;clear r1 r2 r3 hb2;go_wp2_with fail
   refine(Cc hn15 98 _).mono ?_;rw[HBK.out];by_cases hblk:Hq s.kind
   ·rw[decide_eq_true hblk];rintro e3 w3 ⟨rfl,rfl⟩;have HN:Hid (max (max q (max (b.deep+1) (e.deep+1))) r.deep=R):=AA (by rw[<-HQ.out,HD.out,if_pos hblk]);have l1:=JI b;have l2:=JI e;clear hblk;go_wp2_with fail
    refine(IH.out b.count (by omega) b v1 _ rfl (by omega) HF.out.2.2.2.2.1 KB.out R1.out HT2.out).mono ?_;generalize b.deep=db at *;rintro e4 w4 ⟨rfl,hb4⟩;have HB4:=AA (AC HB2.out hb4);have R2':=AA (R2.out.on hb4);have R3':=AA (R3.out.on hb4);clear hb4 x0 hcl;go_wp2_with fail
    refine(IH.out e.count (by omega) e v2 _ rfl (by omega) HF.out.2.2.2.2.2.1 KE.out R2'.out (HTR.out.on HB4.out)).mono ?_;generalize e.deep=de at *;rintro e5 w5 ⟨rfl,hb5⟩;have HB5:=AA (AC HB4.out hb5);have R3'':=AA (R3'.out.on hb5);clear hb5;go_wp2_with fail
    all_goals
     go_roundw;case rel=>exact⟨r,max q (max (db+1) (de+1)),R3''.out,congrArg (Value.int .i64) (by omega),HN.out,HF.out.2.2.2.2.2.2,KR.out,by omega,AC HB.out HB5.out⟩
     case measure=>rw[R3''.out.lenV,BV];show _<_+1;omega
   ·rw[decide_eq_false hblk];rintro e3 w3 ⟨rfl,rfl⟩;have HN:Hid (max q r.deep=R):=AA (by rw[<-HQ.out,HD.out,if_neg hblk]);clear hblk;go_wp2_with fail
    go_roundw;case rel=>exact⟨r,q,R3.out,rfl,HN.out,HF.out.2.2.2.2.2.2,KR.out,by omega,AC HB.out HB2.out⟩
    case measure=>rw[R3.out.lenV,BV];show _<_+1;omega
theorem Zq:∀n,QB0 n:=by
 intro n
 induction n using Nat.strongRecOn with
 |_ n ih=>exact W6 n ih
theorem Zr {b:Bool} {L:List Stm} (h:Dx b L=true):∃t:Bk,Dp L=some t/\t.fit/\t.flat=L/\I5 L:=by
 unfold Dx at h;cases ht:Dp L with
 |none=>rw[ht]at h;cases h
 |some t=>
  rw[ht]at h;simp only[Bool.and_eq_true]at h;obtain⟨h1,h2⟩:=MF ht;exact⟨t,rfl,h1,h2,QBz h.1⟩
set_option maxRecDepth 100000 in
set_option maxHeartbeats 4000000 in
theorem Qa (v:Value) (L:List Stm) (w:World) (h:BG w v L) (hs:∀x∈L,Fb x) (ht:Tabs w):Calls Tryz.prog 155 #[v] w (AK (CP L) w):=by
 have HL:=AA h;have HS:=AA hs;have HT:=AA ht;obtain⟨A,c,rfl,_⟩:=h;clear hs ht;by_cases h40:L.length<=40
 ·go_enter Tryz.func155,Tryz.ntmps155;go_wp2_with fail
  refine(QBx _ L _ false _ rfl h40 HS.out HL.out HT.out).mono ?_;cases hf:Dx false L with
  |false=>
   have HN:Hid (CP L=false):=AA (by rw[QY,hf];simp);rintro e w1 ⟨rfl,hb1⟩;go_wp2_with fail
   go_ret;exact⟨AH HN.out.symm,hb1⟩
  |true=>
   obtain⟨t,h1,h2,h3,h4⟩:=Zr hf;have HN:Hid (CP L=decide ((t.deep:Int)<=12)):=AA (by
    rw[QY,hf,h1,decide_eq_true h40];exact Bool.eq_iff_iff.2 (by simp;omega))
   subst h3;have H2:=AA h2;have H4:=AA h4;clear h1 h2 h4 hf;rintro e w1 ⟨rfl,hb1⟩;have HB1:=AA hb1;clear hb1;go_wp2_with fail
   refine(Zq _ t _ _ rfl (by rw[<-BV];exact h40) H2.out H4.out (HL.out.on HB1.out) (HT.out.on HB1.out)).mono ?_;rintro e w2 ⟨rfl,hb2⟩;go_wp2_with fail
   go_ret;exact⟨AH HN.out.symm,AC HB1.out hb2⟩
 ·have HN:Hid (CP L=false):=AA (by unfold CP;simp[h40]);rw[HN.out];go_enter Tryz.func155,Tryz.ntmps155;go_wp2_with fail
  go_ret;exact⟨rfl,Below.refl _ _⟩
def NW:List (List (List UInt8)):=[[],[[114],[61],[101],[59]],[[108,111,97,100],[114],[61],[110],[59]],[[115,116,111,114,101],[110],[61],[101],[59]],[[99,97,115],[114],[61],[110],[44],[101],[44],[102],[59]],[[102,108,117,115,104],[110],[59]],[[111,112,116],[110],[59]],[[115,102,101,110,99,101],[59]],[[109,102,101,110,99,101],[59]],[[116,97,107,101],[110],[59]],[[103,105,118,101],[110],[59]],[[105,102],[101],[98]],[[108,111,111,112],[107],[98]],[[98,114,101,97,107],[59]],[[99,104,101,99,107],[101],[59]]]
def BP (n:Nat):List (List UInt8):=NW.getD n []
theorem NX {n:Nat} (h:n<15):Lib.fields (CN n)=BP n:=by
 have:∀n:Fin 15,Lib.fields (CN n.1)=BP n.1:=by decide
 exact this ⟨n,h⟩
theorem O1 {n:Nat} (h:n<15):∀(j:Nat) b,(CN n)[j]?=some b->b.toNat<128:=by
 have:∀n:Fin 15,(CN n.1).all (fun b=>decide (b.toNat<128))=true:=by decide
 intro j b hj;exact of_decide_eq_true (List.all_eq_true.1 (this ⟨n,h⟩) b (List.mem_of_getElem? hj))
theorem OS {n:Nat} (h:n<15):(CN n).length<=20:=by
 have:∀n:Fin 15,(CN n.1).length<=20:=by decide
 exact this ⟨n,h⟩
theorem OT {n:Nat} (h:n<15):(BP n).length<=9:=by
 have:∀n:Fin 15,(BP n.1).length<=9:=by decide
 exact this ⟨n,h⟩
theorem VR {n k:Nat} (h:n<15) {wd:List UInt8} (hw:(BP n)[k]?=some wd):wd.length<=6:=by
 have:∀n:Fin 15,(BP n.1).all (fun t=>decide (t.length<=6))=true:=by decide
 exact of_decide_eq_true (List.all_eq_true.1 (this ⟨n,h⟩) wd (List.mem_of_getElem? hw))
def Qb (x:Stm) (wd:List UInt8):List UInt8:=
 if wd=[114]then x.reg else if wd=[110]then x.name else if wd=[101]then CL x.e else if wd=[102]then CL x.f else if wd=[107]then Lib.itoa x.n else wd
def W7 (k:Nat) (wd:List UInt8):Bool:=decide (0<k)&&!decide (wd=[59])&&!decide (wd=[44])
def Lx (x:Stm) (blk:List UInt8) (k:Nat) (wd:List UInt8):List UInt8:=(if W7 k wd=true then[32]else[])++(if wd=[98]then blk else Qb x wd)
def As (ws:List (List UInt8)) (x:Stm) (blk:List UInt8):Nat->List UInt8
 |0=>[]
 |k+1=>As ws x blk k++Lx x blk k (ws.getD k [])
theorem Tq {ws:List (List UInt8)} {k:Nat} {wd:List UInt8} (h:ws[k]?=some wd) (x:Stm) (blk:List UInt8):As ws x blk (k+1)=As ws x blk k++Lx x blk k wd:=by
 show _++Lx x blk k (ws.getD k [])=_;rw[List.getD_eq_getElem?_getD,h];rfl
theorem W8 {x:Stm} {n:Nat} (hk:x.kind=n) (h1:1<=n) (h2:n<=14) (blk:List UInt8):As (BP n) x blk (BP n).length=NG x++(if Hq x.kind then 32::blk else[59]):=by
 have:n=1\/n=2\/n=3\/n=4\/n=5\/n=6\/n=7\/n=8\/n=9\/n=10\/n=11\/n=12\/n=13\/n=14:=by omega
 rcases this with rfl|rfl|rfl|rfl|rfl|rfl|rfl|rfl|rfl|rfl|rfl|rfl|rfl|rfl<;>
  simp[BP,NW,As,Lx,W7,Qb,NG,hk,Hq,Jv,CM]
def Hv (ind:List UInt8) (t:Bk):List UInt8:=[123,10]++(B7 (ind++[32,32]) t++(ind++[125]))
def KC (ind:List UInt8) (b e:Bk):List UInt8:=Hv ind b++(if 0<e.count then[32,101,108,115,101,32]++Hv ind e else[])
theorem W9 {s:Stm} {n:Nat} (hk:s.kind=n) (h1:1<=n) (h2:n<=14) (ind:List UInt8) (b e r:Bk):B7 ind (.cons s b e r)=ind++(As (BP n) s (KC ind b e) (BP n).length++([10]++B7 ind r)):=by
 rw[W8 hk h1 h2];by_cases hb:Hq s.kind
 ·simp only[B7,KC,Hv,if_pos hb];by_cases he:0<e.count
  ·simp[if_pos he,FW]
  ·simp[if_neg he]
 ·simp only[B7,if_neg hb];simp
def QEG (L M N:List Stm) (W w:World) (e:Ending) (w':World):Prop:=
 ∃v1 v2 v3,e=.returned (.tuple #[v1,v2,v3])/\BG W v1 L/\BG W v2 M/\BG W v3 N/\Below w.heap.size w w'
set_option maxRecDepth 100000 in
set_option maxHeartbeats 4000000 in
theorem QEH (v:Value) (x:Stm) (r:List Stm) (W w:World) (h:BG W v (x::r)) (hbw:Below W.heap.size W w) (hh:JF x r.length) (hl:r.length<=10000):Calls Tryz.prog 205 #[v] w (QEG (Dn x r) (Db x r) (Do x r) W w):=by
 have HL:=AA h;obtain⟨A,c,rfl,hc,hm,hr⟩:=h;obtain⟨g,o,AE,nE,cE,AF,nF,cF,rfl,h9⟩:=hr 0 x rfl;have h9:=h9.on hbw;clear hbw;obtain⟨lt9,x0,x1,x2,x3,x4,x5,x6,x7,x8,_,_⟩:=h9;clear hr x0 x1 x2 x3 x4 x5 x8;obtain⟨h1,h2,h3,_⟩:=hh;obtain⟨b,hb⟩:∃b:Nat,x.body=b:=⟨x.body.toNat,by omega⟩
 obtain⟨e,he⟩:∃e:Nat,x.els=e:=⟨x.els.toNat,by omega⟩
 rw[hb]at x6 h3;rw[he]at x7 h3;have HB:=AA hb;have HE:=AA he;clear hb he h1 h2;have hlen:(x::r).length=r.length+1:=rfl;rw[hlen]at hc⊢;have hbe:b+e<=r.length:=by omega
 unfold maxLen at hm;simp only[Nat.zero_mul,Nat.add_zero]at x6 x7;have i1:IntKind.i64.wrap (1+(b:Int))=1+b:=IntWalk.i64_in _ (by omega);have i2:IntKind.i64.wrap (1+(b:Int)+e)=1+b+e:=IntWalk.i64_in _ (by omega);go_enter Tryz.func205,Tryz.ntmps205;go_wp2_with fail
 go_quiet (fail)
 generalize hA1:(if c=1 then some (⟨g,o,none⟩:Addr)else some ⟨g,o+9,none⟩)=A1;generalize hA2:(if c=1+b then some (⟨g,o,none⟩:Addr)else some ⟨g,o+(1+b)*9,none⟩)=A2;generalize hA3:(if c=1+b+e then some (⟨g,o,none⟩:Addr)else some ⟨g,o+(1+b+e)*9,none⟩)=A3;have eb:x.body.toNat=b:=by have:=HB.out;omega
 have ee:x.els.toNat=e:=by have:=HE.out;omega
 have g1:BG W (.slice A1 (1+b-1) (c-1)) (Dn x r):=HL.out.cutAt (k:=1) (j:=1+b) (by omega) (by rw[hlen];omega) rfl rfl (fun hk=>by rw[<-hA1,if_neg (by omega),Nat.one_mul]) (by unfold Dn;rw[eb,Nat.add_comm 1 b];rfl);have g2:BG W (.slice A2 (1+b+e-(1+b)) (c-(1+b))) (Db x r):=HL.out.cutAt (k:=1+b) (j:=1+b+e) (by omega) (by rw[hlen];omega) rfl rfl (fun hk=>by rw[<-hA2,if_neg (by omega)]) (by
  unfold Db;rw[eb,ee,show 1+b+e=(b+e)+1 from by omega,Nat.add_comm 1 b];show _=(r.take (b+e)).drop b;rw[List.drop_take];congr 1;omega)
 have g3:BG W (.slice A3 (r.length+1-(1+b+e)) (c-(1+b+e))) (Do x r):=HL.out.cutAt (k:=1+b+e) (j:=r.length+1) (by omega) (by rw[hlen];omega) rfl rfl (fun hk=>by rw[<-hA3,if_neg (by omega)]) (by
  unfold Do;rw[eb,ee,show 1+b+e=(b+e)+1 from by omega];show _=((r.take r.length).drop (b+e))
  rw[List.take_length])
 have G1:=AA g1;have G2:=AA g2;have G3:=AA g3;clear g1 g2 g3 hA1 hA2 hA3;go_wp2_with fail
 refine bodyPost_ret (v:=.tuple #[.slice A1 (1+b-1) (c-1),.slice A2 (1+b+e-(1+b)) (c-(1+b)),.slice A3 (r.length+1-(1+b+e)) (c-(1+b+e))]) (by simp[results,Tryz.results205,go_sem]) rfl ?_;exact⟨_,_,_,rfl,G1.out,G2.out,G3.out,AM _ _⟩
theorem YK {x:Stm} (h:EY x=true):x.reg.length<=16/\x.name.length<=16/\(CL x.e).length<=840/\(CL x.f).length<=840/\(x.e.length<=10000/\Ej x.e)/\(x.f.length<=10000/\Ej x.f)/\0<=x.n/\x.n<=8:=by
 obtain⟨k,hk,h1,h2⟩:=Ij h;obtain⟨_,_,_,hr,hn,he,hf,ht⟩:=La hk h;have nil0:(CL []).length<=840:=by decide
 have nilN:([]:List Nod).length<=10000/\Ej []:=⟨by simp,fun a ha=>by cases ha⟩
 refine⟨?_,?_,?_,?_,?_,?_,?_⟩
 ·split at hr
  ·exact EH hr
  ·rw[List.isEmpty_iff.1 hr];simp
 ·split at hn
  ·exact EH hn
  ·rw[List.isEmpty_iff.1 hn];simp
 ·split at he
  ·exact KA he
  ·rw[List.isEmpty_iff.1 he];exact nil0
 ·split at hf
  ·exact KA hf
  ·rw[List.isEmpty_iff.1 hf];exact nil0
 ·split at he
  ·exact I4 he
  ·rw[List.isEmpty_iff.1 he];exact nilN
 ·split at hf
  ·exact I4 hf
  ·rw[List.isEmpty_iff.1 hf];exact nilN
 ·split at ht
  ·simp at ht;omega
  ·simp at ht;omega
set_option maxRecDepth 100000 in
set_option maxHeartbeats 4000000 in
theorem QEI (x:Stm) (AE:Option Addr) (nE cE:Nat) (AF:Option Addr) (nF cF:Nat) (w:World):Calls Tryz.prog 207 #[.string ⟨[114].toArray⟩,.agg #[.int .i64 x.kind,.string ⟨x.reg.toArray⟩,.string ⟨x.name.toArray⟩,.slice AE nE cE,.slice AF nF cF,.int .i64 x.n,.int .i64 x.body,.int .i64 x.els,.int .i64 x.pl]] w (Br x.reg w):=by
 go_enter Tryz.func207,Tryz.ntmps207;go_upto_region 1 with(fail)
 have hbx:=(Below.refl w.heap.size w).alloc (Nat.le_refl _) (.cells #[.int .i64 x.kind,.string ⟨x.reg.toArray⟩,.string ⟨x.name.toArray⟩,.slice AE nE cE,.slice AF nF cF,.int .i64 x.n,.int .i64 x.body,.int .i64 x.els,.int .i64 x.pl] 44);have HB0:=AA hbx;have N9:=AA (Ea w (.int .i64 x.kind) (.string ⟨x.reg.toArray⟩) (.string ⟨x.name.toArray⟩) (.slice AE nE cE) (.slice AF nF cF) (.int .i64 x.n) (.int .i64 x.body) (.int .i64 x.els) (.int .i64 x.pl) 44);clear hbx
 generalize w.alloc (.cells #[.int .i64 x.kind,.string ⟨x.reg.toArray⟩,.string ⟨x.name.toArray⟩,.slice AE nE cE,.slice AF nF cF,.int .i64 x.n,.int .i64 x.body,.int .i64 x.els,.int .i64 x.pl] 44)=W at *;obtain⟨hW,y0,y1,y2,y3,y4,y5,_,_,_⟩:=N9.out;go_wp2_with fail
 go_ret;exact⟨rfl,HB0.out⟩
set_option maxRecDepth 100000 in
set_option maxHeartbeats 4000000 in
theorem QEJ (x:Stm) (AE:Option Addr) (nE cE:Nat) (AF:Option Addr) (nF cF:Nat) (w:World):Calls Tryz.prog 207 #[.string ⟨[110].toArray⟩,.agg #[.int .i64 x.kind,.string ⟨x.reg.toArray⟩,.string ⟨x.name.toArray⟩,.slice AE nE cE,.slice AF nF cF,.int .i64 x.n,.int .i64 x.body,.int .i64 x.els,.int .i64 x.pl]] w (Br x.name w):=by
 go_enter Tryz.func207,Tryz.ntmps207;go_upto_region 1 with(fail)
 have hbx:=(Below.refl w.heap.size w).alloc (Nat.le_refl _) (.cells #[.int .i64 x.kind,.string ⟨x.reg.toArray⟩,.string ⟨x.name.toArray⟩,.slice AE nE cE,.slice AF nF cF,.int .i64 x.n,.int .i64 x.body,.int .i64 x.els,.int .i64 x.pl] 44);have HB0:=AA hbx;have N9:=AA (Ea w (.int .i64 x.kind) (.string ⟨x.reg.toArray⟩) (.string ⟨x.name.toArray⟩) (.slice AE nE cE) (.slice AF nF cF) (.int .i64 x.n) (.int .i64 x.body) (.int .i64 x.els) (.int .i64 x.pl) 44);clear hbx
 generalize w.alloc (.cells #[.int .i64 x.kind,.string ⟨x.reg.toArray⟩,.string ⟨x.name.toArray⟩,.slice AE nE cE,.slice AF nF cF,.int .i64 x.n,.int .i64 x.body,.int .i64 x.els,.int .i64 x.pl] 44)=W at *;obtain⟨hW,y0,y1,y2,y3,y4,y5,_,_,_⟩:=N9.out;go_wp2_with fail
 go_ret;exact⟨rfl,HB0.out⟩
set_option maxRecDepth 100000 in
set_option maxHeartbeats 4000000 in
theorem QEK (x:Stm) (AE:Option Addr) (nE cE:Nat) (AF:Option Addr) (nF cF:Nat) (w:World) (hE:Ax w (.slice AE nE cE) x.e) (hl:x.e.length<=10000) (hs:Ej x.e) (ht:Tabs w):Calls Tryz.prog 207 #[.string ⟨[101].toArray⟩,.agg #[.int .i64 x.kind,.string ⟨x.reg.toArray⟩,.string ⟨x.name.toArray⟩,.slice AE nE cE,.slice AF nF cF,.int .i64 x.n,.int .i64 x.body,.int .i64 x.els,.int .i64 x.pl]] w (Br (CL x.e) w):=by
 go_enter Tryz.func207,Tryz.ntmps207;go_upto_region 1 with(fail)
 have hbx:=(Below.refl w.heap.size w).alloc (Nat.le_refl _) (.cells #[.int .i64 x.kind,.string ⟨x.reg.toArray⟩,.string ⟨x.name.toArray⟩,.slice AE nE cE,.slice AF nF cF,.int .i64 x.n,.int .i64 x.body,.int .i64 x.els,.int .i64 x.pl] 44);have HB0:=AA hbx;have HR:=AA (hE.on hbx);have HT:=AA (ht.on hbx);clear hE ht;have N9:=AA (Ea w (.int .i64 x.kind) (.string ⟨x.reg.toArray⟩) (.string ⟨x.name.toArray⟩) (.slice AE nE cE) (.slice AF nF cF) (.int .i64 x.n) (.int .i64 x.body) (.int .i64 x.els) (.int .i64 x.pl) 44);clear hbx
 generalize w.alloc (.cells #[.int .i64 x.kind,.string ⟨x.reg.toArray⟩,.string ⟨x.name.toArray⟩,.slice AE nE cE,.slice AF nF cF,.int .i64 x.n,.int .i64 x.body,.int .i64 x.els,.int .i64 x.pl] 44)=W at *;obtain⟨hW,y0,y1,y2,y3,y4,y5,_,_,_⟩:=N9.out;go_wp2_with fail
 refine(QB _ x.e _ HR.out hl hs HT.out).mono ?_;rintro e w1 ⟨rfl,hb⟩;go_wp2_with fail
 go_ret;exact⟨rfl,AC HB0.out hb⟩
set_option maxRecDepth 100000 in
set_option maxHeartbeats 4000000 in
theorem QEL (x:Stm) (AE:Option Addr) (nE cE:Nat) (AF:Option Addr) (nF cF:Nat) (w:World) (hE:Ax w (.slice AF nF cF) x.f) (hl:x.f.length<=10000) (hs:Ej x.f) (ht:Tabs w):Calls Tryz.prog 207 #[.string ⟨[102].toArray⟩,.agg #[.int .i64 x.kind,.string ⟨x.reg.toArray⟩,.string ⟨x.name.toArray⟩,.slice AE nE cE,.slice AF nF cF,.int .i64 x.n,.int .i64 x.body,.int .i64 x.els,.int .i64 x.pl]] w (Br (CL x.f) w):=by
 go_enter Tryz.func207,Tryz.ntmps207;go_upto_region 1 with(fail)
 have hbx:=(Below.refl w.heap.size w).alloc (Nat.le_refl _) (.cells #[.int .i64 x.kind,.string ⟨x.reg.toArray⟩,.string ⟨x.name.toArray⟩,.slice AE nE cE,.slice AF nF cF,.int .i64 x.n,.int .i64 x.body,.int .i64 x.els,.int .i64 x.pl] 44);have HB0:=AA hbx;have HR:=AA (hE.on hbx);have HT:=AA (ht.on hbx);clear hE ht;have N9:=AA (Ea w (.int .i64 x.kind) (.string ⟨x.reg.toArray⟩) (.string ⟨x.name.toArray⟩) (.slice AE nE cE) (.slice AF nF cF) (.int .i64 x.n) (.int .i64 x.body) (.int .i64 x.els) (.int .i64 x.pl) 44);clear hbx
 generalize w.alloc (.cells #[.int .i64 x.kind,.string ⟨x.reg.toArray⟩,.string ⟨x.name.toArray⟩,.slice AE nE cE,.slice AF nF cF,.int .i64 x.n,.int .i64 x.body,.int .i64 x.els,.int .i64 x.pl] 44)=W at *;obtain⟨hW,y0,y1,y2,y3,y4,y5,_,_,_⟩:=N9.out;go_wp2_with fail
 refine(QB _ x.f _ HR.out hl hs HT.out).mono ?_;rintro e w1 ⟨rfl,hb⟩;go_wp2_with fail
 go_ret;exact⟨rfl,AC HB0.out hb⟩
set_option maxRecDepth 100000 in
set_option maxHeartbeats 4000000 in
theorem QEM (x:Stm) (AE:Option Addr) (nE cE:Nat) (AF:Option Addr) (nF cF:Nat) (w:World) (hn0:0<=x.n) (hn1:x.n<=8) (ht:Tabs w):Calls Tryz.prog 207 #[.string ⟨[107].toArray⟩,.agg #[.int .i64 x.kind,.string ⟨x.reg.toArray⟩,.string ⟨x.name.toArray⟩,.slice AE nE cE,.slice AF nF cF,.int .i64 x.n,.int .i64 x.body,.int .i64 x.els,.int .i64 x.pl]] w (Br (Lib.itoa x.n) w):=by
 go_enter Tryz.func207,Tryz.ntmps207;go_upto_region 1 with(fail)
 have hbx:=(Below.refl w.heap.size w).alloc (Nat.le_refl _) (.cells #[.int .i64 x.kind,.string ⟨x.reg.toArray⟩,.string ⟨x.name.toArray⟩,.slice AE nE cE,.slice AF nF cF,.int .i64 x.n,.int .i64 x.body,.int .i64 x.els,.int .i64 x.pl] 44);have HB0:=AA hbx;have HT:=AA (ht.on hbx);clear ht;have N9:=AA (Ea w (.int .i64 x.kind) (.string ⟨x.reg.toArray⟩) (.string ⟨x.name.toArray⟩) (.slice AE nE cE) (.slice AF nF cF) (.int .i64 x.n) (.int .i64 x.body) (.int .i64 x.els) (.int .i64 x.pl) 44);clear hbx
 generalize w.alloc (.cells #[.int .i64 x.kind,.string ⟨x.reg.toArray⟩,.string ⟨x.name.toArray⟩,.slice AE nE cE,.slice AF nF cF,.int .i64 x.n,.int .i64 x.body,.int .i64 x.els,.int .i64 x.pl] 44)=W at *;obtain⟨hW,y0,y1,y2,y3,y4,y5,_,_,_⟩:=N9.out;go_wp2_with fail
 refine(OD x.n (by omega) (by omega) _ HT.out).mono ?_;rintro e w1 ⟨rfl,hb⟩;go_wp2_with fail
 go_ret;exact⟨rfl,AC HB0.out hb⟩
set_option maxRecDepth 100000 in
set_option maxHeartbeats 4000000 in
theorem QEN (x:Stm) (wd:List UInt8) (AE:Option Addr) (nE cE:Nat) (AF:Option Addr) (nF cF:Nat) (w:World) (h1:(wd==[114])=false) (h2:(wd==[110])=false) (h3:(wd==[101])=false) (h4:(wd==[102])=false) (h5:(wd==[107])=false):Calls Tryz.prog 207 #[.string ⟨wd.toArray⟩,.agg #[.int .i64 x.kind,.string ⟨x.reg.toArray⟩,.string ⟨x.name.toArray⟩,.slice AE nE cE,.slice AF nF cF,.int .i64 x.n,.int .i64 x.body,.int .i64 x.els,.int .i64 x.pl]] w (Br wd w):=by
 go_enter Tryz.func207,Tryz.ntmps207;go_upto_region 1 with(fail)
 have hbx:=(Below.refl w.heap.size w).alloc (Nat.le_refl _) (.cells #[.int .i64 x.kind,.string ⟨x.reg.toArray⟩,.string ⟨x.name.toArray⟩,.slice AE nE cE,.slice AF nF cF,.int .i64 x.n,.int .i64 x.body,.int .i64 x.els,.int .i64 x.pl] 44);have HB0:=AA hbx;have N9:=AA (Ea w (.int .i64 x.kind) (.string ⟨x.reg.toArray⟩) (.string ⟨x.name.toArray⟩) (.slice AE nE cE) (.slice AF nF cF) (.int .i64 x.n) (.int .i64 x.body) (.int .i64 x.els) (.int .i64 x.pl) 44);clear hbx
 generalize w.alloc (.cells #[.int .i64 x.kind,.string ⟨x.reg.toArray⟩,.string ⟨x.name.toArray⟩,.slice AE nE cE,.slice AF nF cF,.int .i64 x.n,.int .i64 x.body,.int .i64 x.els,.int .i64 x.pl] 44)=W at *;obtain⟨hW,y0,y1,y2,y3,y4,y5,_,_,_⟩:=N9.out;go_wp2_with fail
 go_ret;exact⟨rfl,HB0.out⟩
theorem Ld (x:Stm) (wd:List UInt8) (AE:Option Addr) (nE cE:Nat) (AF:Option Addr) (nF cF:Nat) (w:World) (hE:Ax w (.slice AE nE cE) x.e) (hF:Ax w (.slice AF nF cF) x.f) (hf:EY x=true) (ht:Tabs w):Calls Tryz.prog 207 #[.string ⟨wd.toArray⟩,.agg #[.int .i64 x.kind,.string ⟨x.reg.toArray⟩,.string ⟨x.name.toArray⟩,.slice AE nE cE,.slice AF nF cF,.int .i64 x.n,.int .i64 x.body,.int .i64 x.els,.int .i64 x.pl]] w (Br (Qb x wd) w):=by
 obtain⟨_,_,_,_,⟨g1,g2⟩,⟨g3,g4⟩,g5,g6⟩:=YK hf;unfold Qb;split
 ·rename_i h;subst h;exact QEI x AE nE cE AF nF cF w
 split
 ·rename_i h;subst h;exact QEJ x AE nE cE AF nF cF w
 split
 ·rename_i h;subst h;exact QEK x AE nE cE AF nF cF w hE g1 g2 ht
 split
 ·rename_i h;subst h;exact QEL x AE nE cE AF nF cF w hF g3 g4 ht
 split
 ·rename_i h;subst h;exact QEM x AE nE cE AF nF cF w g5 g6 ht
 ·rename_i h1 h2 h3 h4 h5
  exact QEN x wd AE nE cE AF nF cF w (beq_eq_false_iff_ne.2 h1) (beq_eq_false_iff_ne.2 h2) (beq_eq_false_iff_ne.2 h3) (beq_eq_false_iff_ne.2 h4) (beq_eq_false_iff_ne.2 h5)
end Go.Proofs.YthfkpalfopdmhaaGreatDoor
namespace Go.Proofs.YthfkpalfopdmhaaGreatDoor
open Go
theorem Qc {α β γ:Type} (r:RS α) (k:α->Nat->RS β) (h:β->Nat->Option (RS γ)):RS.obind (some (r.bind k)) h=RS.obind (some r) (fun a j=>RS.obind (some (k a j)) h):=by cases r<;>rfl
theorem I6 {α β γ:Type} (r:Option (RS α)) (k:α->Nat->Option (RS β)) (h:β->Nat->Option (RS γ)):RS.obind (RS.obind r k) h=RS.obind r (fun a j=>RS.obind (k a j) h):=by
 rcases r with _|⟨a,q⟩|⟨e,p⟩<;>rfl
def Qd (row:DF) (L:List Tok) (d l:Nat) (wd:List UInt8) (o:YG) (i:Nat):Option (RS YG):=
 if wd=[114]then RS.obind (some (Bd L i)) fun r j=>some (.ok ⟨{o.s with reg:=r},o.b,o.e⟩ j)
 else if wd=[110]then RS.obind (some (Bd L i)) fun r j=>some (.ok ⟨{o.s with name:=r},o.b,o.e⟩ j)
 else if wd=[101]then RS.obind (some (exprP L i)) fun r j=>some (.ok ⟨{o.s with e:=r},o.b,o.e⟩ j)
 else if wd=[102]then RS.obind (some (exprP L i)) fun r j=>some (.ok ⟨{o.s with f:=r},o.b,o.e⟩ j)
 else if wd=[107]then RS.obind (some (EQ L i)) fun r j=>some (.ok ⟨{o.s with n:=r},o.b,o.e⟩ j)
 else if wd=[98]then RS.obind (CB row L i (d+1) (inL o.s.kind.toNat l)) fun b j=>RS.obind (EF row L o.s.kind.toNat j (d+1) (inL o.s.kind.toNat l)) fun e j=>some (.ok ⟨{o.s with body:=b.count,els:=e.count},b,e⟩ j)
 else RS.obind (some (Bo L i wd)) fun _ j=>some (.ok o j)
def LD (row:DF) (L:List Tok) (d l:Nat):List (List UInt8)->YG->Nat->Option (RS YG)
 |[],o,i=>some (.ok o i)
 |wd::ws,o,i=>RS.obind (Qd row L d l wd o i) (fun o j=>LD row L d l ws o j)
theorem NY {L:List Tok} {i:Nat} {s:List UInt8} (h:isB L i s=true):Bo L i s=.ok () (i+1):=by unfold Bo;rw[if_pos h]
set_option maxHeartbeats 4000000 in
theorem Zs (row:DF) (L:List Tok) (i d l:Nat) (h:¬(Aj L i=13/\l=0)):LD row L d l (BP (Aj L i)) ⟨GR (Aj L i) (AN L i),.nil,.nil⟩ i=G8 row L i d l:=by
 unfold G8;rw[if_neg h];rcases FR L i with hk|⟨h1,h2,h3⟩
 ·rw[hk];simp[BP,NW,LD,Qd,Di,Qc,I6,GR,Hq]
 ·generalize Aj L i=k at *;have:k=2\/k=3\/k=4\/k=5\/k=6\/k=7\/k=8\/k=9\/k=10\/k=11\/k=12\/k=13\/k=14:=by omega
  rcases this with rfl|rfl|rfl|rfl|rfl|rfl|rfl|rfl|rfl|rfl|rfl|rfl|rfl<;>
  ·simp only[CM,List.getD_cons_succ,List.getD_cons_zero]at h3;have hm:=NY h3;simp[BP,NW,LD,Qd,Di,Qc,I6,GR,Hq,hm]
theorem Tt {L:List Tok} {i:Nat} (h:DU L i=true):Aj L i=1:=by
 rcases FR L i with hk|⟨h1,h2,h3⟩
 ·exact hk
 ·exfalso;obtain⟨t,ht,hi,hp⟩:∃t,L[i]?=some t/\i<L.length/\nameB t.text=true:=by
   unfold DU at h;cases hn:nameAt L i with
   |none=>rw[hn]at h;simp at h
   |some s=>
    have hl:=(JY hn).1;refine⟨L[i],List.getElem?_eq_getElem hl,hl,?_⟩;have h4:=(JY hn).2;unfold nameAt at hn;rw[List.getElem?_eq_getElem hl]at hn;simp only at hn;split at hn
    ·simp at hn;rw[hn];exact h4
    ·cases hn
  have h5:=QB1 h3 ht;rw[h5]at hp;have:∀k:Fin 15,2<=k.1->nameB (CM.getD k.1 [])=false:=by decide
  rw[this ⟨Aj L i,by omega⟩ h1]at hp;cases hp
def H8 (L:List Tok) (i l:Nat):Nat:=if Aj L i=1 then(if DU L i=true then 1 else 0)else if Aj L i=13/\l=0 then 0 else Aj L i
theorem VS {L:List Tok} {i:Nat} (l:Nat) (h:DU L i=true):H8 L i l=1:=by unfold H8;rw[if_pos (Tt h),if_pos h]
def Il (k:Nat):List UInt8:=if k=1 then[114]else CM.getD k []
theorem QF3:∀a b:Fin 15,2<=a.1->2<=b.1->CM.getD a.1 []=CM.getD b.1 []->a=b:=by decide
theorem QGt:∀a:Fin 15,2<=a.1->CM.getD a.1 []≠[]:=by decide
theorem Zt {L:List Tok} {i k:Nat} (h1:2<=k) (h2:k<=14) (h:isB L i (CM.getD k [])=true):Aj L i=k:=by
 rcases FR L i with hk|⟨g1,g2,g3⟩
 ·exfalso;unfold Aj at hk;cases hf:(List.range 15).find? (fun k=>decide (2<=k)&&isB L i (CM.getD k []))with
  |none=>
   have:=List.find?_eq_none.1 hf k (List.mem_range.2 (by omega));simp only[h,Bool.and_true,decide_eq_true_eq]at this;exact this h1
  |some m=>
   have h3:=List.find?_some hf;rw[hf]at hk;simp only[Bool.and_eq_true,decide_eq_true_eq]at h3;simp only[Option.getD_some]at hk;omega
 ·have:=QF3 ⟨Aj L i,by omega⟩ ⟨k,by omega⟩ g1 h1 (YL g3 h);simpa using this
theorem O5 {L:List Tok} {i k l:Nat} (h1:2<=k) (h2:k<=14) (h:isB L i (CM.getD k [])=true):H8 L i l=if k=13/\l=0 then 0 else k:=by
 have hk:=Zt h1 h2 h;unfold H8;rw[hk,if_neg (by omega)]
theorem Qe {L:List Tok} {i l:Nat} (hn:DU L i=false) (h:∀k,2<=k->k<=14->isB L i (CM.getD k [])=false):H8 L i l=0:=by
 unfold H8;rcases FR L i with hk|⟨g1,g2,g3⟩
 ·rw[if_pos hk,hn];rfl
 ·rw[h _ g1 g2]at g3;cases g3
theorem VT {L:List Tok} {i l:Nat} (hn:DU L i=false) (h:isB L i []=true):H8 L i l=0:=by
 refine Qe hn fun k h1 h2=>?_
 cases hb:isB L i (CM.getD k [])with
 |false=>rfl
 |true=>exact absurd (YL hb h) (QGt ⟨k,by omega⟩ h1)
theorem XA {L:List Tok} {i:Nat} (h:DU L i=false):Bd L i=badR L i 5:=by
 unfold DU at h;unfold Bd;cases hn:nameAt L i with
 |none=>rfl
 |some s=>rw[hn]at h;simp at h
theorem XB {row:DF} {L:List Tok} {i d l:Nat} (h:H8 L i l=0):G8 row L i d l=some (badR L i 5):=by
 unfold H8 at h;unfold G8;rcases FR L i with hk|⟨g1,g2,g3⟩
 ·rw[if_neg (by omega),if_pos hk,hk];rw[if_pos hk]at h;cases hn:DU L i with
  |true=>rw[hn]at h;simp at h
  |false=>
   rw[Di,if_pos rfl,XA hn];rfl
 ·rw[if_neg (by omega)]at h;split at h
  ·rename_i hh;rw[if_pos hh]
  ·omega
theorem Zu {L:List Tok} {i l:Nat} (h:H8 L i l≠0):H8 L i l=Aj L i/\¬(Aj L i=13/\l=0)/\1<=Aj L i/\Aj L i<=14/\i<L.length:=by
 have hr:=Wq L i;unfold H8 at h⊢;split at h
 ·rename_i hk
  rw[if_pos hk];split at h
  ·rename_i hn
   rw[if_pos hn,hk];refine⟨rfl,by omega,by omega,by omega,?_⟩;unfold DU at hn;cases hx:nameAt L i with
   |none=>rw[hx]at hn;simp at hn
   |some s=>exact(JY hx).1
  ·exact absurd rfl h
 ·rename_i hk
  rw[if_neg hk];split at h
  ·exact absurd rfl h
  ·rename_i hh
   rw[if_neg hh];rcases FR L i with h1|⟨_,_,g3⟩
   ·exact absurd h1 hk
   ·exact⟨rfl,hh,hr.1,hr.2,Bl g3⟩
def NZ (row:DF):Prop:=∀i d l b j,row i d l=some (.ok b j)->i+b.count<=j
theorem Qf {L:List Tok} {i j:Nat} {s:List UInt8} {u:Unit} (h:Bo L i s=.ok u j):j=i+1:=by
 unfold Bo at h;split at h
 ·simp at h;exact h.symm
 ·unfold badR at h;cases h
theorem O6 {row:DF} (hr:NZ row) {L:List Tok} {i d l j:Nat} {b:Bk} (h:CB row L i d l=some (.ok b j)):i+b.count+2<=j:=by
 unfold CB at h;split at h
 ·unfold badR at h;cases h
 ·rcases RS.obind_some h with⟨_,j1,h1,h2⟩|⟨e,p,h1,h2⟩
  ·have a1:=Qf (Option.some.inj h1);rcases RS.obind_some h2 with⟨b',j2,h3,h4⟩|⟨e,p,h3,h4⟩
   ·have a2:=hr _ _ _ _ _ h3;rcases RS.obind_some h4 with⟨_,j3,h5,h6⟩|⟨e,p,h5,h6⟩
    ·have a3:=Qf (Option.some.inj h5);simp only[Option.some.injEq,RS.ok.injEq]at h6;obtain⟨rfl,rfl⟩:=h6;omega
    ·cases h6
   ·cases h4
  ·cases h2
theorem XC {row:DF} (hr:NZ row) {L:List Tok} {k i d l j:Nat} {b:Bk} (h:EF row L k i d l=some (.ok b j)):i+b.count<=j:=by
 unfold EF at h;split at h
 ·have:=O6 hr h;omega
 ·simp only[Option.some.injEq,RS.ok.injEq]at h;obtain⟨rfl,rfl⟩:=h;exact Nat.le_refl _
theorem SJ {row:DF} (hr:NZ row) {L:List Tok} {i d l j:Nat} {o:YG} (h:G8 row L i d l=some (.ok o j)):i+1+o.b.count+o.e.count<=j:=by
 unfold G8 at h;split at h
 ·unfold badR at h;cases h
 ·have a1:=Gy L i;unfold Ds at a1;rcases RS.obind_some h with⟨s,j1,h1,h2⟩|⟨e,p,h1,h2⟩
  ·rw[Option.some.inj h1]at a1;have b1:=a1.1;split at h2
   ·rcases RS.obind_some h2 with⟨_,j2,h3,h4⟩|⟨e,p,h3,h4⟩
    ·have a3:=Qf (Option.some.inj h3);simp only[Option.some.injEq,RS.ok.injEq]at h4;obtain⟨rfl,rfl⟩:=h4;simp only[Bk.count];omega
    ·cases h4
   ·rcases RS.obind_some h2 with⟨b,j2,h3,h4⟩|⟨e,p,h3,h4⟩
    ·have a2:=O6 hr h3;rcases RS.obind_some h4 with⟨e,j3,h5,h6⟩|⟨e,p,h5,h6⟩
     ·have a3:=XC hr h5;simp only[Option.some.injEq,RS.ok.injEq]at h6;obtain⟨rfl,rfl⟩:=h6;simp only;omega
     ·cases h6
    ·cases h4
  ·cases h2
theorem Zv (L:List Tok):∀f,NZ (C7 L f):=by
 intro f
 induction f with
 |zero=>intro i d l b j h;simp[C7]at h
 |succ f ih=>
  intro i d l b j h;rw[Dk]at h;split at h
  ·simp only[Option.some.injEq,RS.ok.injEq]at h;obtain⟨rfl,rfl⟩:=h;exact Nat.le_refl _
  ·rcases RS.obind_some h with⟨o,j1,h1,h2⟩|⟨e,p,h1,h2⟩
   ·have a1:=SJ ih h1;rcases RS.obind_some h2 with⟨t,j2,h3,h4⟩|⟨e,p,h3,h4⟩
    ·have a2:=ih _ _ _ _ _ h3;simp only[Option.some.injEq,RS.ok.injEq]at h4;obtain⟨rfl,rfl⟩:=h4;simp only[Bk.count];omega
    ·cases h4
   ·cases h2
end Go.Proofs.YthfkpalfopdmhaaGreatDoor

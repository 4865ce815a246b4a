/- Texts of the walk, packed. -/
import Derived.Test.YthfkpalfopdmhaaGreatDoorY19
import Derived.Test.YthfkpalfopdmhaaGreatDoorY20
import Derived.Test.YthfkpalfopdmhaaGreatDoorY00
namespace Go.Proofs.YthfkpalfopdmhaaGreatDoor
open Go.RowKit
def I4 (L:List Stm):Prop:=∀x∈L,0<x.kind∧x.kind<15
theorem QA5 {L:List Stm} (h:L.all Dy=true):I4 L:=by
 intro x hx
 have:=List.all_eq_true.1 h x hx
 unfold Dy at this
 simp only[Bool.and_eq_true,decide_eq_true_eq]at this
 omega
def QA6 (n:Nat):Prop:=∀(t:Bk) (v:Value) (w:World),t.count=n→n≤40→t.fit→I4 t.flat→BI w v t.flat→Tabs w→Calls Tryz.prog 198 #[v] w (Lm t.deep w)
theorem WH {s:Stm} {b e r:Bk} (h:I4 (Bk.cons s b e r).flat):(0<s.kind∧s.kind<15)∧I4 b.flat∧I4 e.flat∧I4 r.flat:=by
 unfold Bk.flat at h
 refine⟨h s (List.mem_cons_self ..),fun x hx=>h x ?_,fun x hx=>h x ?_,fun x hx=>h x ?_⟩
 ·exact List.mem_cons_of_mem _ (List.mem_append_left _ hx)
 ·exact List.mem_cons_of_mem _ (List.mem_append_right _ (List.mem_append_left _ hx))
 ·exact List.mem_cons_of_mem _ (List.mem_append_right _ (List.mem_append_right _ hx))
theorem Y3 (s:Stm) (b e r:Bk) (q:Nat):max q (Bk.cons s b e r).deep=max (if GR s.kind then max q (max (b.deep+1) (e.deep+1))else q) r.deep:=by
 simp only[Bk.deep]
 by_cases h:GR s.kind
 ·rw[if_pos h,if_pos h];omega
 ·rw[if_neg h,if_neg h];omega
set_option maxRecDepth 100000 in
set_option maxHeartbeats 8000000 in
theorem WI (n:Nat) (ih:∀m,m<n→QA6 m):QA6 n:=by
 intro t v w hn h40 hfit hkind h ht
 subst hn
 have HL:=AA h
 have IH:=AA ih
 have HT:=AA ht
 have HFT:=AA hfit
 have HKD:=AA hkind
 clear ih ht hfit hkind
 obtain⟨A,c,rfl,_⟩:=h
 obtain⟨R,hR⟩:∃R,t.deep=R:=⟨_,rfl⟩
 rw[hR]
 have HV:=AA hR
 have HLE:=AA (JH t)
 have hRl:R≤t.count:=by rw[←hR];exact HLE.out
 clear hR
 go_enter Tryz.func198,Tryz.ntmps198
 go_wp2_with fail
 go_loopw [0,3] (fun v d wr=>∃(t':Bk) (q:Nat),BI wr v t'.flat∧d=.int .i64 q∧max q t'.deep=R∧t'.fit∧I4 t'.flat∧t'.count≤t.count∧Below w.heap.size w wr) (fun v _ _=>lenV v)
 case atStart=>exact⟨t,0,HL.out,rfl,by rw[←HV.out];simp,HFT.out,HKD.out,Nat.le_refl _,Below.refl _ _⟩
 case round=>
  obtain⟨t',q,hr,rfl,hq,hf,hkd,hct,hb⟩:=hrel
  have HM:=AA hr
  have HQ:=AA hq
  have HF:=AA hf
  have HK:=AA hkd
  have HB:=AA hb
  have HTR:=AA (HT.out.on hb)
  have hqR:q≤40:=by omega
  clear hf hb hkd hq
  obtain⟨A',c',rfl,hc',hm',hr⟩:=hr
  cases t' with
  |nil=>
   have HN:Hid (q=R):=AA (by have:=HQ.out;simp only[Bk.deep]at this;omega)
   clear hr
   go_wp2_with fail
   go_ret
   exact⟨Js (by rw[HN.out]),HB.out⟩
  |cons s b e r=>
   obtain⟨p1,p2,p3,p4⟩:=Lq s b e r HF.out
   have P1:=AA p1
   have P2:=AA p2
   have P3:=AA p3
   have P4:=AA p4
   have hfl:(Bk.cons s b e r).flat=s::(b.flat++(e.flat++r.flat)):=rfl
   have hln:(b.flat++(e.flat++r.flat)).length=b.count+e.count+r.count:=by simp only[List.length_append,Ba];omega
   have hcc:b.count+e.count+r.count+1≤t.count:=hct
   clear p1 p2 p3 p4 hct
   rw[hfl]at HM hr hc'⊢
   obtain⟨g,o,AE,nE,cE,AF,nF,cF,rfl,h9⟩:=hr 0 s rfl
   have H9:=AA h9
   clear hr h9
   obtain⟨⟨k1,k2⟩,kb,ke,kr⟩:=WH HK.out
   have KB:=AA kb
   have KE:=AA ke
   have KR:=AA kr
   clear kb ke kr
   have HD:=AA (Y3 s b e r q)
   obtain⟨n,hn⟩:∃n:Nat,s.kind=n:=⟨s.kind.toNat,by omega⟩
   have HBK:Hid (If n 98=decide (GR s.kind)):=AA (by rw[←hn];exact Xe k1 k2)
   have hn15:n<15:=by omega
   have HNK:=AA hn
   clear hn
   have hlr:(s::(b.flat++(e.flat++r.flat))).length=(b.count+e.count+r.count)+1:=by rw[List.length_cons,hln]
   rw[hlr]at hc'⊢
   go_wp2_with fail
   refine(Kr _ s (b.flat++(e.flat++r.flat)) _ (by have:=HM.out;rwa [hlr]at this) P1.out (by omega)).mono ?_
   rw[P2.out,P3.out,P4.out]
   rintro e2 w2 ⟨v1,v2,v3,rfl,r1,r2,r3,hb2⟩
   have R1:=AA r1
   have R2:=AA r2
   have R3:=AA r3
   have HB2:=AA hb2
   have HT2:=AA (HTR.out.on hb2)
   have hcl:=HT2.out.own hn15
   have htl:=HT2.out.lt
   obtain⟨lt9,x0,_⟩:=H9.out.on hb2
   rw[HNK.out]at x0
   simp only[Nat.zero_mul,Nat.add_zero]at x0
   clear r1 r2 r3 hb2
   go_wp2_with fail
   refine(Cj hn15 98 _).mono ?_
   rw[HBK.out]
   by_cases hblk:GR s.kind
   ·rw[decide_eq_true hblk]
    rintro e3 w3 ⟨rfl,rfl⟩
    have HN:Hid (max (max q (max (b.deep+1) (e.deep+1))) r.deep=R):=AA (by rw[←HQ.out,HD.out,if_pos hblk])
    have l1:=JH b
    have l2:=JH e
    clear hblk
    go_wp2_with fail
    refine(IH.out b.count (by omega) b v1 _ rfl (by omega) HF.out.2.2.2.2.1 KB.out R1.out HT2.out).mono ?_
    generalize b.deep=db at *
    rintro e4 w4 ⟨rfl,hb4⟩
    have HB4:=AA (AC HB2.out hb4)
    have R2':=AA (R2.out.on hb4)
    have R3':=AA (R3.out.on hb4)
    clear hb4 x0 hcl
    go_wp2_with fail
    refine(IH.out e.count (by omega) e v2 _ rfl (by omega) HF.out.2.2.2.2.2.1 KE.out R2'.out (HTR.out.on HB4.out)).mono ?_
    generalize e.deep=de at *
    rintro e5 w5 ⟨rfl,hb5⟩
    have HB5:=AA (AC HB4.out hb5)
    have R3'':=AA (R3'.out.on hb5)
    clear hb5
    go_wp2_with fail
    all_goals
     go_roundw
     case rel=>exact⟨r,max q (max (db+1) (de+1)),R3''.out,congrArg (Value.int .i64) (by omega),HN.out,HF.out.2.2.2.2.2.2,KR.out,by omega,AC HB.out HB5.out⟩
     case measure=>rw[R3''.out.lenV,Ba];show _<_+1;omega
   ·rw[decide_eq_false hblk]
    rintro e3 w3 ⟨rfl,rfl⟩
    have HN:Hid (max q r.deep=R):=AA (by rw[←HQ.out,HD.out,if_neg hblk])
    clear hblk
    go_wp2_with fail
    go_roundw
    case rel=>exact⟨r,q,R3.out,rfl,HN.out,HF.out.2.2.2.2.2.2,KR.out,by omega,AC HB.out HB2.out⟩
    case measure=>rw[R3.out.lenV,Ba];show _<_+1;omega
theorem Y4:∀n,QA6 n:=by
 intro n
 induction n using Nat.strongRecOn with
 |_ n ih=>exact WI n ih
theorem Y5 {b:Bool} {L:List Stm} (h:EE b L=true):∃t:Bk,Dx L=some t∧t.fit∧t.flat=L∧I4 L:=by
 unfold EE at h
 cases ht:Dx L with
 |none=>rw[ht]at h;cases h
 |some t=>
  rw[ht]at h
  simp only[Bool.and_eq_true]at h
  obtain⟨h1,h2⟩:=Lr ht
  exact⟨t,rfl,h1,h2,QA5 h.1⟩
set_option maxRecDepth 100000 in
set_option maxHeartbeats 4000000 in
theorem Po (v:Value) (L:List Stm) (w:World) (h:BI w v L) (hs:∀x∈L,GV x) (ht:Tabs w):Calls Tryz.prog 155 #[v] w (AN (CJ L) w):=by
 have HL:=AA h
 have HS:=AA hs
 have HT:=AA ht
 obtain⟨A,c,rfl,_⟩:=h
 clear hs ht
 by_cases h40:L.length≤40
 ·go_enter Tryz.func155,Tryz.ntmps155
  go_wp2_with fail
  refine(QA3 _ L _ false _ rfl h40 HS.out HL.out HT.out).mono ?_
  cases hf:EE false L with
  |false=>
   have HN:Hid (CJ L=false):=AA (by rw[Pm,hf];simp)
   rintro e w1 ⟨rfl,hb1⟩
   go_wp2_with fail
   go_ret
   exact⟨AH HN.out.symm,hb1⟩
  |true=>
   obtain⟨t,h1,h2,h3,h4⟩:=Y5 hf
   have HN:Hid (CJ L=decide ((t.deep:Int)≤12)):=AA (by
    rw[Pm,hf,h1,decide_eq_true h40]
    exact Bool.eq_iff_iff.2 (by simp;omega))
   subst h3
   have H2:=AA h2
   have H4:=AA h4
   clear h1 h2 h4 hf
   rintro e w1 ⟨rfl,hb1⟩
   have HB1:=AA hb1
   clear hb1
   go_wp2_with fail
   refine(Y4 _ t _ _ rfl (by rw[←Ba];exact h40) H2.out H4.out (HL.out.on HB1.out) (HT.out.on HB1.out)).mono ?_
   rintro e w2 ⟨rfl,hb2⟩
   go_wp2_with fail
   go_ret
   exact⟨AH HN.out.symm,AC HB1.out hb2⟩
 ·have HN:Hid (CJ L=false):=AA (by unfold CJ;simp[h40])
  rw[HN.out]
  go_enter Tryz.func155,Tryz.ntmps155
  go_wp2_with fail
  go_ret
  exact⟨rfl,Below.refl _ _⟩
end Go.Proofs.YthfkpalfopdmhaaGreatDoor
